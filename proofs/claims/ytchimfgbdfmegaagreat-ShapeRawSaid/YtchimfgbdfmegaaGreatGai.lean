/- The contract of the reference's Sum, for every key and every string of at most a thousand bytes. -/
import Derived.Test.YtchimfgbdfmegaaGreatGah
import Derived.Laws.IdiomStrings
import Derived.Deep.RegionHeld3
import Derived.Test.YtchimfgbdfmegaaGreatGag
namespace Go.Proofs.YtchimfgbdfmegaaGreat.Sip
open Go.RowKit
set_option linter.unusedVariables false
set_option maxRecDepth 100000
set_option maxRecDepth 100000
set_option linter.unusedSimpArgs false
theorem le8_cons (l : List UInt8) (a n : Nat) : le8 l a (n + 1) = byteAt l a + le8 l (a + 1) n * 256 := by
  induction n with
  | zero => simp [le8]
  | succ n ih =>
    rw [le8, ih]
    rw [show le8 l (a + 1) (n + 1) = le8 l (a + 1) n + byteAt l (a + 1 + n) * 2 ^ (8 * n) from rfl]
    rw [Nat.add_mul, show a + (n + 1) = a + 1 + n by omega, show 8 * (n + 1) = 8 * n + 8 by omega, Nat.pow_add, ← Nat.mul_assoc]
    omega
/-- a state behind the words up to a place -/
def RS (k0 k1 : Int) (l : List UInt8) (k : Nat) (st : St) : Prop :=
  (k ≤ l.length ∧ st = stN k0 k1 l (k / 8)) ∨ (l.length < k ∧ st = mix (stN k0 k1 l (l.length / 8)) ((le8 l (8 * (l.length / 8)) 8 + l.length % 256 * 72057594037927936 : Nat) : Int))

set_option maxHeartbeats 2000000 in
set_option maxRecDepth 100000 in
theorem refSum_any (k0 k1 : Int) (s : ByteArray) (w : World) (h0 : 0 ≤ k0 ∧ k0 < 18446744073709551616) (h1 : 0 ≤ k1 ∧ k1 < 18446744073709551616) (hs : s.size ≤ 1000) :
    Calls Tryz.prog 61 #[.int .u64 k0, .int .u64 k1, .string s] w fun e w' => e = .returned (.int .u64 (sipZ k0 k1 s.data.toList)) ∧ Below w.heap.size w w' := by
  have hl : Hid (s.data.toList.length = s.size) := Lib.hid (by rw [Array.length_toList]; rfl)
  go_enter Tryz.func61, Tryz.ntmps61
  go_wp2_with fail
  have B1 := Blk.new w 155 #[.int .u64 (st0 k0 k1).1, .int .u64 (st0 k0 k1).2.1, .int .u64 (st0 k0 k1).2.2.1, .int .u64 (st0 k0 k1).2.2.2]
  have hW2 : Below w.heap.size w (w.alloc (.cells #[.int .u64 (st0 k0 k1).1, .int .u64 (st0 k0 k1).2.1, .int .u64 (st0 k0 k1).2.2.1, .int .u64 (st0 k0 k1).2.2.2] 155)) := (Below.refl _ _).alloc (Nat.le_refl _) _
  go_loopw [8] (fun i wr => ∃ (k : Nat) (st : St), k % 8 = 0 ∧ k ≤ s.size + 8 ∧ i = .int .i64 k ∧ RS k0 k1 s.data.toList k st ∧ Hid st.ok ∧ Blk wr w.heap.size 155 #[.int .u64 st.1, .int .u64 st.2.1, .int .u64 st.2.2.1, .int .u64 st.2.2.2] ∧ Below w.heap.size w wr) (fun i wr => s.size + 8 - (intOf i).toNat)
  case atStart => exact ⟨0, st0 k0 k1, rfl, by omega, rfl, .inl ⟨Nat.zero_le _, rfl⟩, stN_ok k0 k1 [] 0, B1, hW2⟩
  case round =>
    clear B1 hW2
    obtain ⟨k, st, hk8, hk, rfl, hR, hok, B, hW⟩ := hrel
    obtain ⟨⟨c0, c1, c2, c3⟩, f0, f1, f2, f3⟩ := four B
    by_cases hlt : k ≤ s.size
    · go_wp2_with fail
      go_loop [9, 10] (fun m i => ∃ j : Nat, j ≤ 8 ∧ i = .int .i64 ((j : Int) - 1) ∧ m = .int .u64 (le8 s.data.toList (k + j) (8 - j))) (fun _ i => (intOf i + 1).toNat)
      case atStart => exact ⟨8, by omega, rfl, rfl⟩
      case round =>
        obtain ⟨j, hj, rfl, rfl⟩ := hrel
        by_cases hj0 : 0 < j
        · obtain ⟨i, rfl⟩ : ∃ i, j = i + 1 := ⟨j - 1, by omega⟩
          rw [show ((i + 1 : Nat) : Int) - 1 = i by omega]
          have hc := le8_cons s.data.toList (k + i) (7 - i)
          rw [show 7 - i + 1 = 8 - i by omega, show k + i + 1 = k + (i + 1) by omega] at hc
          have hlt8 := le8_lt s.data.toList (k + (i + 1)) (7 - i)
          have hp : 2 ^ (8 * (7 - i)) ≤ 2 ^ 56 := Nat.pow_le_pow_right (by decide) (by omega)
          by_cases hi : k + i < s.size
          · have hb := byteAt_get s (k + i) hi
            have hb2 := byteAt_lt s.data.toList (k + i)
            have S := Lib.hid (show IntKind.u64.wrap (IntKind.u64.wrap ((le8 s.data.toList (k + (i + 1)) (7 - i) : Nat) * 256 : Int) + IntKind.u64.wrap ((s[k + i]'hi).toNat : Int)) = (le8 s.data.toList (k + i) (8 - i) : Int) by
              rw [hb, IntKind.wrap_u64, IntKind.wrap_u64, IntKind.wrap_u64, hc]
              generalize le8 s.data.toList (k + (i + 1)) (7 - i) = x at *
              generalize byteAt s.data.toList (k + i) = y at *
              generalize 2 ^ (8 * (7 - i)) = p at *
              omega)
            clear hc hlt8 hp hb hb2
            go_wp2
            refine ⟨⟨i, by omega, rfl, by rw [S.out]⟩, by simp [intOf]⟩
          · have hb2 := byteAt_ge s.data.toList (k + i) (by rw [hl.out]; omega)
            have S := Lib.hid (show IntKind.u64.wrap ((le8 s.data.toList (k + (i + 1)) (7 - i) : Nat) * 256 : Int) = (le8 s.data.toList (k + i) (8 - i) : Int) by
              rw [IntKind.wrap_u64, hc, hb2]
              generalize le8 s.data.toList (k + (i + 1)) (7 - i) = x at *
              generalize 2 ^ (8 * (7 - i)) = p at *
              omega)
            clear hc hlt8 hp hb2
            go_wp2
            refine ⟨⟨i, by omega, rfl, by rw [S.out]⟩, by simp [intOf]⟩
        · obtain rfl : j = 0 := by omega
          by_cases hend : s.size < k + 8
          · go_wp2_with fail
            obtain ⟨M, hM⟩ : ∃ M : Int, IntKind.u64.wrap ((le8 s.data.toList k 8 : Int) + (s.size : Int) % 256 * 72057594037927936) = M := ⟨_, rfl⟩
            rw [hM]
            have R2 : Hid (RS k0 k1 s.data.toList (k + 8) (mix st M)) := Lib.hid (by
              have hkk : k = 8 * (s.size / 8) := by omega
              have hz := byteAt_ge s.data.toList (k + 7) (by rw [hl.out]; omega)
              have h7 := le8_lt s.data.toList k 7
              have h8 : le8 s.data.toList k 8 = le8 s.data.toList k 7 := by
                rw [show le8 s.data.toList k 8 = le8 s.data.toList k 7 + byteAt s.data.toList (k + 7) * 2 ^ (8 * 7) from rfl, hz]; omega
              have hM2 : M = ((le8 s.data.toList k 8 + s.size % 256 * 72057594037927936 : Nat) : Int) := by
                rw [← hM, h8, IntKind.wrap_u64]
                generalize le8 s.data.toList k 7 = x at *
                omega
              rcases hR with ⟨_, hst⟩ | ⟨hgt, _⟩
              · refine .inr ⟨by rw [hl.out]; omega, ?_⟩
                rw [hl.out, hst, hM2, ← hkk, show k / 8 = s.size / 8 by omega]
              · rw [hl.out] at hgt; omega)
            clear hR hM
            refine (refRound_any _ _ _ _ _ hok.out.1 hok.out.2.1 hok.out.2.2.1 (xo_lt _ _)).mono ?_
            rintro e w1 ⟨rfl, hb1⟩
            go_wp2_with fail
            refine (refRound_s _ _ (rnd_ok _)).mono ?_
            rintro e w2 ⟨rfl, hb2⟩
            dsimp only [St.v]
            have B2 : Blk (wr.setCell ⟨w.heap.size, 3, none⟩ (.int .u64 (bits BinOp.xor IntKind.u64 st.2.2.2 M))) w.heap.size 155 #[.int .u64 st.1, .int .u64 st.2.1, .int .u64 st.2.2.1, .int .u64 (bits BinOp.xor IntKind.u64 st.2.2.2 M)] := by
              have h4 := B.set_ 3 (.int .u64 (bits BinOp.xor IntKind.u64 st.2.2.2 M))
              simpa using h4
            have hW1 : Below w.heap.size w (wr.setCell ⟨w.heap.size, 3, none⟩ (.int .u64 (bits BinOp.xor IntKind.u64 st.2.2.2 M))) := hW.setCell (p := ⟨w.heap.size, 3, none⟩) (Nat.le_refl _) _
            have hb12 := hb1.trans (hb2.mono hb1.size)
            have B3 := B2.below hb12 B2.lt
            have hW3 := hW1.trans (hb12.mono hW1.size)
            clear B B2 hW hW1 hb1 hb2 hb12 c0 c1 c2 c3 f0 f1 f2 f3
            obtain ⟨r, hr⟩ : ∃ r, rnd (rnd (st.1, st.2.1, st.2.2.1, xo st.2.2.2 M)) = r := ⟨_, rfl⟩
            rw [hr]
            have MX := Lib.hid (show mix st M = (bits .xor .u64 r.1 M, r.2.1, r.2.2.1, r.2.2.2) by rw [← hr]; rfl)
            clear hr
            obtain ⟨⟨c0, c1, c2, c3⟩, f0, f1, f2, f3⟩ := four B3
            go_wp2
            refine ⟨⟨k + 8, mix st M, by omega, by omega, by go_num, R2.out, mix_ok _ _, ?_, ?_⟩, by simp [intOf]; omega⟩
            · rw [MX.out]
              have h5 := (B3.put4 (.int .u64 r.1) (.int .u64 r.2.1) (.int .u64 r.2.2.1) (.int .u64 r.2.2.2)).set_ 0 (.int .u64 (bits .xor .u64 r.1 M))
              simpa using h5
            · exact (below_put4 hW3 (Nat.le_refl _) _ _ _ _).setCell (p := ⟨w.heap.size, 0, none⟩) (Nat.le_refl _) _
          · go_wp2_with fail
            obtain ⟨M, hM⟩ : ∃ M : Int, (le8 s.data.toList k 8 : Int) = M := ⟨_, rfl⟩
            rw [hM]
            have R2 : Hid (RS k0 k1 s.data.toList (k + 8) (mix st M)) := Lib.hid (by
              rcases hR with ⟨_, hst⟩ | ⟨hgt, _⟩
              · refine .inl ⟨by rw [hl.out]; omega, ?_⟩
                rw [hst, ← hM, show (k + 8) / 8 = k / 8 + 1 by omega]
                simp only [stN]
                rw [show 8 * (k / 8) = k by omega]
              · rw [hl.out] at hgt; omega)
            clear hR hM
            refine (refRound_any _ _ _ _ _ hok.out.1 hok.out.2.1 hok.out.2.2.1 (xo_lt _ _)).mono ?_
            rintro e w1 ⟨rfl, hb1⟩
            go_wp2_with fail
            refine (refRound_s _ _ (rnd_ok _)).mono ?_
            rintro e w2 ⟨rfl, hb2⟩
            dsimp only [St.v]
            have B2 : Blk (wr.setCell ⟨w.heap.size, 3, none⟩ (.int .u64 (bits BinOp.xor IntKind.u64 st.2.2.2 M))) w.heap.size 155 #[.int .u64 st.1, .int .u64 st.2.1, .int .u64 st.2.2.1, .int .u64 (bits BinOp.xor IntKind.u64 st.2.2.2 M)] := by
              have h4 := B.set_ 3 (.int .u64 (bits BinOp.xor IntKind.u64 st.2.2.2 M))
              simpa using h4
            have hW1 : Below w.heap.size w (wr.setCell ⟨w.heap.size, 3, none⟩ (.int .u64 (bits BinOp.xor IntKind.u64 st.2.2.2 M))) := hW.setCell (p := ⟨w.heap.size, 3, none⟩) (Nat.le_refl _) _
            have hb12 := hb1.trans (hb2.mono hb1.size)
            have B3 := B2.below hb12 B2.lt
            have hW3 := hW1.trans (hb12.mono hW1.size)
            clear B B2 hW hW1 hb1 hb2 hb12 c0 c1 c2 c3 f0 f1 f2 f3
            obtain ⟨r, hr⟩ : ∃ r, rnd (rnd (st.1, st.2.1, st.2.2.1, xo st.2.2.2 M)) = r := ⟨_, rfl⟩
            rw [hr]
            have MX := Lib.hid (show mix st M = (bits .xor .u64 r.1 M, r.2.1, r.2.2.1, r.2.2.2) by rw [← hr]; rfl)
            clear hr
            obtain ⟨⟨c0, c1, c2, c3⟩, f0, f1, f2, f3⟩ := four B3
            go_wp2
            refine ⟨⟨k + 8, mix st M, by omega, by omega, by go_num, R2.out, mix_ok _ _, ?_, ?_⟩, by simp [intOf]; omega⟩
            · rw [MX.out]
              have h5 := (B3.put4 (.int .u64 r.1) (.int .u64 r.2.1) (.int .u64 r.2.2.1) (.int .u64 r.2.2.2)).set_ 0 (.int .u64 (bits .xor .u64 r.1 M))
              simpa using h5
            · exact (below_put4 hW3 (Nat.le_refl _) _ _ _ _).setCell (p := ⟨w.heap.size, 0, none⟩) (Nat.le_refl _) _
    · have Z : Hid (sipZ k0 k1 s.data.toList = fin st) := Lib.hid (by
        rcases hR with ⟨hle, _⟩ | ⟨_, hst⟩
        · rw [hl.out] at hle; omega
        · rw [hst]; rfl)
      clear hR hk8 hk
      go_wp2_with fail
      refine (refRound_any _ _ _ _ _ hok.out.1 hok.out.2.1 (xo_lt _ _) hok.out.2.2.2).mono ?_
      rintro e w1 ⟨rfl, hb1⟩
      go_wp2_with fail
      refine (refRound_s _ _ (rnd_ok _)).mono ?_
      rintro e w2 ⟨rfl, hb2⟩
      go_wp2_with fail
      refine (refRound_s _ _ (rnd_ok _)).mono ?_
      rintro e w3 ⟨rfl, hb3⟩
      go_wp2_with fail
      refine (refRound_s _ _ (rnd_ok _)).mono ?_
      rintro e w4 ⟨rfl, hb4⟩
      dsimp only [St.v]
      have B2 : Blk (wr.setCell ⟨w.heap.size, 2, none⟩ (.int .u64 (bits BinOp.xor IntKind.u64 st.2.2.1 255))) w.heap.size 155 #[.int .u64 st.1, .int .u64 st.2.1, .int .u64 (bits BinOp.xor IntKind.u64 st.2.2.1 255), .int .u64 st.2.2.2] := by
        have h4 := B.set_ 2 (.int .u64 (bits BinOp.xor IntKind.u64 st.2.2.1 255))
        simpa using h4
      have hW1 : Below w.heap.size w (wr.setCell ⟨w.heap.size, 2, none⟩ (.int .u64 (bits BinOp.xor IntKind.u64 st.2.2.1 255))) := hW.setCell (p := ⟨w.heap.size, 2, none⟩) (Nat.le_refl _) _
      have hb12 := hb1.trans (hb2.mono hb1.size)
      have hb13 := hb12.trans (hb3.mono hb12.size)
      have hb14 := hb13.trans (hb4.mono hb13.size)
      have B3 := B2.below hb14 B2.lt
      have hW3 := hW1.trans (hb14.mono hW1.size)
      clear B B2 hW hW1 hb1 hb2 hb12 hb3 hb13 hb4 hb14 c0 c1 c2 c3 f0 f1 f2 f3
      obtain ⟨r, hr⟩ : ∃ r, rnd (rnd (rnd (rnd (st.1, st.2.1, xo st.2.2.1 255, st.2.2.2)))) = r := ⟨_, rfl⟩
      rw [hr]
      have MX := Lib.hid (show fin st = xo (xo (xo r.1 r.2.1) r.2.2.1) r.2.2.2 by rw [← hr]; rfl)
      clear hr
      obtain ⟨⟨c0, c1, c2, c3⟩, f0, f1, f2, f3⟩ := four B3
      go_wp2
      go_ret
      exact ⟨ret_int' (MX.out.symm.trans Z.out.symm), below_put4 hW3 (Nat.le_refl _) _ _ _ _⟩
end Go.Proofs.YtchimfgbdfmegaaGreat.Sip
/- Contracts of sip.Of, the hashers and the example of the document. -/
namespace Go.Proofs.YtchimfgbdfmegaaGreat.Sip
open Go.RowKit
set_option linter.unusedVariables false
set_option maxRecDepth 100000
set_option maxRecDepth 100000
set_option linter.unusedSimpArgs false
theorem addr_add (b off j : Nat) : (⟨b, off, none⟩ : Addr).add j = ⟨b, off + j, none⟩ := by unfold Addr.add; split <;> simp_all

/-- a mask's bits of a sum -/
def an (a b : Int) : Int := bits .and .u64 a b
theorem an_lt (a b : Int) : 0 ≤ an a b ∧ an a b < 18446744073709551616 := by
  unfold an bits; rw [IntKind.wrap_u64]; omega
theorem sipZ_lt (k0 k1 : Int) (l : List UInt8) : 0 ≤ sipZ k0 k1 l ∧ sipZ k0 k1 l < 18446744073709551616 := xo_lt _ _

set_option maxHeartbeats 1000000 in
theorem hash_any (k0 k1 m : Int) (s : ByteArray) (w : World) (h0 : 0 ≤ k0 ∧ k0 < 18446744073709551616) (h1 : 0 ≤ k1 ∧ k1 < 18446744073709551616) (hs : s.size ≤ 1000) :
    Calls Tryz.prog 49 #[.agg #[.int .u64 k0, .int .u64 k1, .int .u64 m], .string s] w fun e w' => e = .returned (.int .u64 (an (sipZ k0 k1 s.data.toList) m)) ∧ Below w.heap.size w w' := by
  go_enter Tryz.func49, Tryz.ntmps49
  go_wp2_with fail
  go_region_held3 (fun w' => w'.cell? ⟨w.heap.size, 0, none⟩ = some (.int .u64 k0) ∧ w'.cell? ⟨w.heap.size, 1, none⟩ = some (.int .u64 k1) ∧ w'.cell? ⟨w.heap.size, 2, none⟩ = some (.int .u64 m))
    (first | go_keep | (refine ⟨?_, ?_, ?_⟩ <;> (first | (rw [hb1.cell (by simp)]; simp [go_sem]))))
    (first | (go_at_call 78; refine (sum_any k0 k1 s _ h0 h1 hs).mono ?_; rintro e w1 ⟨rfl, hb1⟩))
  have hW : Below w.heap.size w w1 := Below.trans (((Below.refl _ _).alloc (Nat.le_refl _) _).drew) (hb1.mono (by simp))
  go_wp2
  go_ret
  exact ⟨rfl, hW⟩

theorem example_sum : sipZ 506097522914230528 1084818905618843912 [0, 1, 2, 3, 4, 5, 6, 7, 8, 9, 10, 11, 12, 13, 14] = 11613035633349379557 := by decide +kernel

theorem bytes_new (w : World) (l : List UInt8) (j : Nat) (hj : j < l.length) :
    (w.alloc (.cells (l.map fun b => Value.int .u8 (b.toNat : Int)).toArray 5)).cell? ⟨w.heap.size, j, none⟩ = some (.int .u8 (l[j].toNat : Int)) := by
  rw [(Blk.new w 5 _).cell j]
  simp [List.getElem?_eq_getElem hj]
end Go.Proofs.YtchimfgbdfmegaaGreat.Sip
/- Looking a key up in a trie. -/
namespace Go.Proofs.YtchimfgbdfmegaaGreat
open Go.RowKit Go.Lib
set_option linter.unusedVariables false
set_option maxRecDepth 100000
set_option linter.unusedSimpArgs false
set_option maxRecDepth 100000
attribute [local irreducible] cnt
/-- what a look-up returns -/
def GetPost (r : Option ByteArray) (w : World) (e : Ending) (w' : World) : Prop := e = .returned (.tuple #[.string (r.getD ⟨#[]⟩), .bool r.isSome]) ∧ Below w.heap.size w w'
theorem bytes_ne {a b : ByteArray} (h : a ≠ b) : (a.toList == b.toList) = false := by
  rw [beq_eq_false_iff_ne]
  exact fun e => h (bytes_ext (by rw [← ByteArray.toList_eq, ← ByteArray.toList_eq]; exact e))
theorem valueOf_yes (q : Pr) (w : World) : Calls Tryz.prog 81 #[q.v, .string q.1] w (GetPost (some q.2) w) := by
  have hB0 := (Below.refl _ w).alloc (Nat.le_refl _) (.cells #[.string q.1, .string q.2] 52)
  unfold Pr.v
  go_enter Tryz.func81, Tryz.ntmps81
  go_wp2_with fail
  go_ret2
  exact ⟨rfl, hB0⟩
theorem valueOf_no (q : Pr) (k : ByteArray) (w : World) (h : q.1 ≠ k) : Calls Tryz.prog 81 #[q.v, .string k] w (GetPost none w) := by
  have hB0 := (Below.refl _ w).alloc (Nat.le_refl _) (.cells #[.string q.1, .string q.2] 52)
  have hn := bytes_ne h
  unfold Pr.v
  go_enter Tryz.func81, Tryz.ntmps81
  go_wp2_with fail
  go_ret2
  exact ⟨rfl, hB0⟩
theorem getK_isK {xs : List Pr} (k : ByteArray) (h : RisesL xs) : getK xs k = if isK xs k = true then some (pat xs (posK xs k)).2 else none := by
  by_cases hk : isK xs k = true
  · rw [if_pos hk]
    have hl := isK_lt hk
    have hm := List.mem_of_getElem? (pat_get hl)
    have e : (pat xs (posK xs k)).1 = k := by unfold isK at hk; exact (of_decide_eq_true hk).2
    have := getK_of_mem h hm
    rw [e] at this; exact this
  · rw [if_neg hk, getK_none]
    have e := dropK_at xs k h
    rw [if_neg hk] at e
    intro x hx
    rw [e] at hx
    exact ((drop_mem _ _ _).1 hx).2
theorem findIn_yes (base b : Nat) (ow : Option Nat) (ps : List Pr) (pv kv : Value) (k : ByteArray) (w : World) (h : Bck base w b ow ps pv kv) (hn : ps.length ≤ 800) (hk : isK ps k = true) :
    Calls Tryz.prog 83 #[at0 b, .string k] w (GetPost (some (pat ps (posK ps k)).2) w) := by
  obtain ⟨hv, hr⟩ := h
  have k1 := isBucket_any _ _ _ _ _ _ _ _ _ _ w hv
  have k2 := pairs_any _ _ _ _ _ _ _ _ _ _ w hv hn
  have HK := Lib.hid hk
  clear hv hk
  unfold at0 at *
  go_enter Tryz.func83, Tryz.ntmps83
  go_wp2_with fail
  refine k1.mono ?_
  rintro e w' ⟨rfl, rfl⟩
  go_wp2_with fail
  refine k2.mono ?_
  rintro e w1 ⟨v, rfl, hO, hB1⟩
  obtain ⟨A, c, rfl, hR⟩ := own_slice hO
  have k3 := find_any A c ps k w1 hR (by omega) hr
  have HR := Lib.hid hR
  clear k1 k2 hO hR
  go_wp2_with fail
  refine k3.mono ?_
  rintro e w2 ⟨rfl, hB2⟩
  have hB := hB1.trans (hB2.mono hB1.size)
  rw [HK.out]
  have hl := isK_lt HK.out
  obtain ⟨g, off, rfl, c0, c1⟩ := (HR.out.below hB2) _ _ (pat_get hl)
  have B1 : ((posK ps k : Nat) : Int) < (ps.length : Int) := by omega
  clear k3 HK HR hB1 hB2
  generalize posK ps k = P at *
  go_wp2_with fail
  go_ret2
  exact ⟨rfl, hB⟩
theorem findIn_no (base b : Nat) (ow : Option Nat) (ps : List Pr) (pv kv : Value) (k : ByteArray) (w : World) (h : Bck base w b ow ps pv kv) (hn : ps.length ≤ 800) (hk : isK ps k = false) :
    Calls Tryz.prog 83 #[at0 b, .string k] w (GetPost (none) w) := by
  obtain ⟨hv, hr⟩ := h
  have k1 := isBucket_any _ _ _ _ _ _ _ _ _ _ w hv
  have k2 := pairs_any _ _ _ _ _ _ _ _ _ _ w hv hn
  have HK := Lib.hid hk
  clear hv hk
  unfold at0 at *
  go_enter Tryz.func83, Tryz.ntmps83
  go_wp2_with fail
  refine k1.mono ?_
  rintro e w' ⟨rfl, rfl⟩
  go_wp2_with fail
  refine k2.mono ?_
  rintro e w1 ⟨v, rfl, hO, hB1⟩
  obtain ⟨A, c, rfl, hR⟩ := own_slice hO
  have k3 := find_any A c ps k w1 hR (by omega) hr
  have HR := Lib.hid hR
  clear k1 k2 hO hR
  go_wp2_with fail
  refine k3.mono ?_
  rintro e w2 ⟨rfl, hB2⟩
  have hB := hB1.trans (hB2.mono hB1.size)
  rw [HK.out]
  clear k3 HR hB1 hB2 HK
  go_wp2_with fail
  go_ret2
  exact ⟨rfl, hB⟩
theorem findIn_any (base b : Nat) (ow : Option Nat) (ps : List Pr) (pv kv : Value) (k : ByteArray) (w : World) (h : Bck base w b ow ps pv kv) (hn : ps.length ≤ 800) :
    Calls Tryz.prog 83 #[at0 b, .string k] w (GetPost (getK ps k) w) := by
  rw [getK_isK k h.2]
  by_cases hk : isK ps k = true
  · rw [if_pos hk]; exact findIn_yes base b ow ps pv kv k w h hn hk
  · rw [if_neg hk]; exact findIn_no base b ow ps pv kv k w h hn (by simpa using hk)
theorem atZ_chk (H : ByteArray → Nat) (l : Nat) (k : ByteArray) (hl : l < 13) : atZ (H k : Int) (l : Int) = (chk H l k : Nat) := by
  unfold atZ chk
  rw [if_neg (by omega)]
  simp
theorem at_chk (H : ByteArray → Nat) (l : Nat) (k : ByteArray) (w : World) (hl : l < 13) (hH : H k < 18446744073709551616) :
    Calls Tryz.prog 79 #[.int .u64 (H k : Nat), .int .i64 l] w fun e w' => e = .returned (.int .i64 (chk H l k : Nat)) ∧ w = w' := by
  rw [← atZ_chk H l k hl]
  exact at_any (H k : Int) (l : Int) w (by omega) (by omega)
set_option maxHeartbeats 4000000 in
theorem find_trie (H : ByteArray → Nat) (X : Nat → Prop) (tk : Option Nat) (lv : Bool) (base b : Nat) (ps : List Pr) (F : Nat → Prop) (k : ByteArray) (w : World) (h : Trie H X tk lv base w 13 0 b ps F) (hH : H k < 18446744073709551616) (hn : ps.length ≤ 800) :
    Calls Tryz.prog 50 #[at0 b, .int .u64 (H k : Nat), .string k] w (GetPost (getK ps k) w) := by
  have HT := Lib.hid h
  clear h
  unfold at0
  go_enter Tryz.func50, Tryz.ntmps50
  go_wp2_with fail
  go_loopw [0, 14] (fun v0 vi wr => ∃ (l b : Nat) (qs : List Pr) (F : Nat → Prop), l ≤ 13 ∧ v0 = .pointer (some ⟨b, 0, none⟩) ∧ vi = .int .i64 l ∧ Trie H X tk lv base w (13 - l) l b qs F ∧ getK qs k = getK ps k ∧ qs.length ≤ 800 ∧ Below w.heap.size w wr) (fun v0 vi wr => 13 - (intOf vi).toNat)
  case atStart => exact ⟨0, b, ps, F, by omega, rfl, rfl, HT.out, rfl, hn, Below.refl _ _⟩
  case round =>
    clear HT
    obtain ⟨l, b', qs, F', hl, rfl, rfl, hT, hg, hq, hB⟩ := hrel
    by_cases hlt : l < 13
    · have L1 : (l : Int) < 13 := by omega
      have L2 : IntKind.i64.wrap ((l : Int) + 1) = ((l + 1 : Nat) : Int) := by rw [IntWalk.i64_in _ (by omega)]; omega
      have ka := at_chk H l k wr hlt hH
      have hc := chk_lt H l k
      obtain ⟨m, hm⟩ : ∃ m, 13 - l = m + 1 := ⟨12 - l, by omega⟩
      rw [hm] at hT
      obtain ⟨ow, pv, kv, lo, S, Fs, hI, hv, hN, hS⟩ := hT
      have hs := hS (chk H l k) hc
      have hgs := getK_sub (ps := qs) (H := H) (l := l) (k := k) rfl
      have hm' : m = 13 - (l + 1) := by omega
      have kp := Inn.pair base b' (chk H l k) ow S pv kv wr (hI.below hB) hc
      have HI := Lib.hid hI
      generalize hC : chk H l k = C at *
      clear hC hS hN hv hI
      unfold SlotIs at hs
      unfold at0 at kp
      cases hsc : S C with
      | no =>
        rw [hsc] at hs
        have eP : S.P C = none := by unfold Slots.P; rw [hsc]; rfl
        have eK : S.K C = none := by unfold Slots.K; rw [hsc]; rfl
        rw [eP] at kp
        have hgn : getK ps k = none := by rw [← hg, ← hgs, hs.1]; rfl
        rw [hgn]
        clear hs hgs hg hgn
        go_wp2_with fail
        refine ka.mono ?_
        rintro e w' ⟨rfl, rfl⟩
        go_wp2_with fail
        refine kp.mono ?_
        rintro e w1 ⟨rfl, hB1⟩
        simp only [optP, Option.isSome_none]
        go_upto_region 8 with (fail)
        have hBa := (hB.trans (hB1.mono hB.size)).alloc (Nat.le_trans hB.size hB1.size) (.cells #[.string ⟨#[]⟩, .string ⟨#[]⟩] 52)
        generalize w1.alloc (.cells #[.string ⟨#[]⟩, .string ⟨#[]⟩] 52) = W at *
        have kk := Inn.kid base b' C ow S pv kv W (HI.out.below hBa) hc
        rw [eK] at kk
        unfold at0 at kk
        go_wp2_with fail
        refine kk.mono ?_
        rintro e w2 ⟨rfl, hB2⟩
        simp only [pt, Option.isSome_none]
        go_wp2_with fail
        go_ret2
        exact ⟨rfl, hBa.trans (hB2.mono hBa.size)⟩
      | pr q =>
        rw [hsc] at hs
        have eP : S.P C = some q := by unfold Slots.P; rw [hsc]; rfl
        rw [eP] at kp
        by_cases hqk : q.1 = k
        · skip
          subst hqk
          have hgn : getK ps q.1 = some q.2 := by rw [← hg, ← hgs, hs.1]; simp [getK]
          rw [hgn]
          clear hs hgs hg hgn
          go_wp2_with fail
          refine ka.mono ?_
          rintro e w' ⟨rfl, rfl⟩
          go_wp2_with fail
          refine kp.mono ?_
          rintro e w1 ⟨rfl, hB1⟩
          simp only [optP, Pr.v, Option.isSome_some]
          go_upto_region 7 with (fail)
          have hBa := (hB.trans (hB1.mono hB.size)).alloc (Nat.le_trans hB.size hB1.size) (.cells #[.string q.1, .string q.2] 52)
          have hbx := Blk.new w1 52 #[.string q.1, .string q.2]
          generalize w1.alloc (.cells #[.string q.1, .string q.2] 52) = W at *
          generalize w1.heap.size = N at *
          have z0 : W.cell? ⟨N, 0, none⟩ = some (.string q.1) := hbx.cell 0
          have z1 : W.cell? ⟨N, 1, none⟩ = some (.string q.2) := hbx.cell 1
          have kv := valueOf_yes q W
          unfold Pr.v at kv
          clear hbx hB1
          go_wp2_with fail
          refine kv.mono ?_
          rintro e w2 ⟨rfl, hB2⟩
          simp only [Option.getD_some, Option.getD_none, Option.isSome_some, Option.isSome_none]
          go_wp2_with fail
          go_ret2
          exact ⟨rfl, hBa.trans (hB2.mono hBa.size)⟩
        · skip
          skip
          have hgn : getK ps k = none := by rw [← hg, ← hgs, hs.1]; simp [getK, hqk]
          rw [hgn]
          clear hs hgs hg hgn
          go_wp2_with fail
          refine ka.mono ?_
          rintro e w' ⟨rfl, rfl⟩
          go_wp2_with fail
          refine kp.mono ?_
          rintro e w1 ⟨rfl, hB1⟩
          simp only [optP, Pr.v, Option.isSome_some]
          go_upto_region 7 with (fail)
          have hBa := (hB.trans (hB1.mono hB.size)).alloc (Nat.le_trans hB.size hB1.size) (.cells #[.string q.1, .string q.2] 52)
          have hbx := Blk.new w1 52 #[.string q.1, .string q.2]
          generalize w1.alloc (.cells #[.string q.1, .string q.2] 52) = W at *
          generalize w1.heap.size = N at *
          have z0 : W.cell? ⟨N, 0, none⟩ = some (.string q.1) := hbx.cell 0
          have z1 : W.cell? ⟨N, 1, none⟩ = some (.string q.2) := hbx.cell 1
          have kv := valueOf_no q k W hqk
          unfold Pr.v at kv
          clear hbx hB1
          go_wp2_with fail
          refine kv.mono ?_
          rintro e w2 ⟨rfl, hB2⟩
          simp only [Option.getD_some, Option.getD_none, Option.isSome_some, Option.isSome_none]
          go_wp2_with fail
          go_ret2
          exact ⟨rfl, hBa.trans (hB2.mono hBa.size)⟩
      | kd kb =>
        rw [hsc] at hs
        have eP : S.P C = none := by unfold Slots.P; rw [hsc]; rfl
        have eK : S.K C = some kb := by unfold Slots.K; rw [hsc]; rfl
        rw [eP] at kp
        have HS := Lib.hid (⟨hs, hgs.trans hg⟩ : (2 ≤ (sub H l C qs).length ∧ Trie H X tk lv base w m (l + 1) kb (sub H l C qs) (Fs C)) ∧ getK (sub H l C qs) k = getK ps k)
        have hsl : (sub H l C qs).length ≤ 800 := Nat.le_trans sub_len hq
        clear hs hgs hg
        go_wp2_with fail
        refine ka.mono ?_
        rintro e w' ⟨rfl, rfl⟩
        go_wp2_with fail
        refine kp.mono ?_
        rintro e w1 ⟨rfl, hB1⟩
        simp only [optP, Option.isSome_none]
        go_upto_region 8 with (fail)
        have hBa := (hB.trans (hB1.mono hB.size)).alloc (Nat.le_trans hB.size hB1.size) (.cells #[.string ⟨#[]⟩, .string ⟨#[]⟩] 52)
        generalize w1.alloc (.cells #[.string ⟨#[]⟩, .string ⟨#[]⟩] 52) = W at *
        have kk := Inn.kid base b' C ow S pv kv W (HI.out.below hBa) hc
        rw [eK] at kk
        unfold at0 at kk
        go_wp2_with fail
        refine kk.mono ?_
        rintro e w2 ⟨rfl, hB2⟩
        simp only [pt, Option.isSome_some]
        unfold at0
        have hBb := hBa.trans (hB2.mono hBa.size)
        clear hB1 hB2 hBa
        go_wp2_with fail
        refine ⟨⟨l + 1, kb, sub H l C qs, Fs C, by omega, rfl, by go_num, ?_, HS.out.2, hsl, hBb⟩, by simp [intOf]; omega⟩
        rw [← hm']
        exact HS.out.1.2
    · obtain rfl : l = 13 := by omega
      obtain ⟨ow, pv, kv, lo, hb, -, -⟩ := (show Trie H X tk lv base w 0 13 b' qs F' from hT)
      have kf := findIn_any base b' ow qs pv kv k wr ⟨hb.1.below hB, hb.2⟩ hq
      rw [hg] at kf
      unfold at0 at kf
      clear hT hb
      go_wp2_with fail
      refine kf.mono ?_
      rintro e w1 ⟨rfl, hB1⟩
      go_wp2_with fail
      go_ret2
      exact ⟨rfl, hB.trans (hB1.mono hB.size)⟩
theorem find_nil (h : Int) (k : ByteArray) (w : World) (h0 : 0 ≤ h) (h1 : h < 18446744073709551616) : Calls Tryz.prog 50 #[.pointer none, .int .u64 h, .string k] w (GetPost none w) := by
  have ka := at_any h 0 w h0 h1
  generalize atZ h 0 = C at *
  have kp := pair_none (.pointer none) 0 C w (by decide) (Lib.hid (by simp)) (fun w' _ => data_nil w')
  have kk := fun w' => kid_none (.pointer none) 0 C w' (by decide) (Lib.hid (by simp)) (nodes_nil w')
  clear h0 h1
  go_enter Tryz.func50, Tryz.ntmps50
  go_wp2_with fail
  refine wp_loop_rounds 1 ?_
  rw [rounds_succ]
  go_wp2_with fail
  refine ka.mono ?_
  rintro e w' ⟨rfl, rfl⟩
  go_wp2_with fail
  refine kp.mono ?_
  rintro e w1 ⟨rfl, hB1⟩
  simp only [optP, Option.isSome_none]
  go_upto_region 8 with (fail)
  have hBa := hB1.alloc hB1.size (.cells #[.string ⟨#[]⟩, .string ⟨#[]⟩] 52)
  generalize w1.alloc (.cells #[.string ⟨#[]⟩, .string ⟨#[]⟩] 52) = W at *
  go_wp2_with fail
  refine (kk W).mono ?_
  rintro e w2 ⟨rfl, hB2⟩
  simp only [pt, Option.isSome_none]
  go_wp2_with fail
  go_ret2
  exact ⟨rfl, hBa.trans (hB2.mono hBa.size)⟩
end Go.Proofs.YtchimfgbdfmegaaGreat
/- Get; the steps that a change makes. -/
namespace Go.Proofs.YtchimfgbdfmegaaGreat
open Go.RowKit Go.Lib
set_option linter.unusedVariables false
set_option maxRecDepth 100000
set_option linter.unusedSimpArgs false
set_option maxRecDepth 100000
attribute [local irreducible] cnt
/-- a key's hash -/
def hz (k0 k1 m : Int) (s : ByteArray) : Nat := (Sip.an (Sip.sipZ k0 k1 s.data.toList) m).toNat
/-- the numbers of a hasher -/
def U64 (x : Int) : Prop := 0 ≤ x ∧ x < 18446744073709551616
theorem hz_int (k0 k1 m : Int) (s : ByteArray) : ((hz k0 k1 m s : Nat) : Int) = Sip.an (Sip.sipZ k0 k1 s.data.toList) m ∧ hz k0 k1 m s < 18446744073709551616 := by
  have h := Sip.an_lt (Sip.sipZ k0 k1 s.data.toList) m
  unfold hz
  omega
theorem hash_hz (k0 k1 m : Int) (s : ByteArray) (w : World) (h0 : U64 k0) (h1 : U64 k1) (hs : s.size ≤ 1000) :
    Calls Tryz.prog 49 #[.agg #[.int .u64 k0, .int .u64 k1, .int .u64 m], .string s] w fun e w' => e = .returned (.int .u64 (hz k0 k1 m s : Nat)) ∧ Below w.heap.size w w' := by
  rw [(hz_int k0 k1 m s).1]
  exact Sip.hash_any k0 k1 m s w h0 h1 hs
/-- the step that a function value makes: which node comes of it -/
def RetB (R : Nat → World → Prop) (e : Ending) (w : World) : Prop := ∃ b, e = .returned (.pointer (some ⟨b, 0, none⟩)) ∧ R b w
theorem stepPair (nv tv : Value) (i : Int) (k u : ByteArray) (X1 X2 : Nat) (R : Nat → World → Prop) (w : World) (h1 : Blk w X1 3 #[.int .i64 i]) (h2 : Blk w X2 52 #[.string k, .string u]) (h : Calls Tryz.prog 21 #[nv, tv, .int .i64 i, .agg #[.string k, .string u]] w (RetB R)) :
    Calls Tryz.prog 113 #[nv, tv, .pointer (some ⟨X1, 0, none⟩), .pointer (some ⟨X2, 0, none⟩)] w (RetB R) := by
  have c00 : w.cell? ⟨X1, 0, none⟩ = some (.int .i64 i) := h1.cell 0
  have c10 : w.cell? ⟨X2, 0, none⟩ = some (.string k) := h2.cell 0
  have c11 : w.cell? ⟨X2, 1, none⟩ = some (.string u) := h2.cell 1
  clear h1 h2
  go_enter Tryz.func113, Tryz.ntmps113
  go_wp2_with fail
  refine h.mono ?_
  rintro e w' ⟨b, rfl, hR⟩
  go_wp2_with fail
  go_ret
  exact ⟨b, rfl, hR⟩
def isPair (w : World) (f : Value) (i : Int) (k u : ByteArray) : Prop := ∃ X1 X2, f = .func (.func 113) #[] #[.pointer (some ⟨X1, 0, none⟩), .pointer (some ⟨X2, 0, none⟩)] ∧ Blk w X1 3 #[.int .i64 i] ∧ Blk w X2 52 #[.string k, .string u]
theorem isPair.below {w w' : World} {f : Value} {i : Int} {k u : ByteArray} (h : isPair w f i k u) (hB : Below w.heap.size w w') : isPair w' f i k u := by
  obtain ⟨X1, X2, e, h1, h2⟩ := h
  exact ⟨X1, X2, e, h1.below hB, h2.below hB⟩
theorem mkPair (i : Int) (k u : ByteArray) (w : World) :
    Calls Tryz.prog 88 #[.int .i64 i, .agg #[.string k, .string u]] w fun e w' => ∃ f, e = .returned f ∧ isPair w' f i k u ∧ Below w.heap.size w w' := by
  have hmf : ∀ (fn : Fn) (first cap : Array Value) (w : World), (Instr.makeFunc fn first cap).run Tryz.prog w = .ok (.func fn first cap) w := fun _ _ _ _ => rfl
  have hB0 := (Below.refl _ w).alloc (Nat.le_refl _) (.cells #[.int .i64 i] 3)
  have hB1 := hB0.alloc hB0.size (.cells #[.string k, .string u] 52)
  have b1 := (Blk.new w 3 #[.int .i64 i]).alloc (.cells #[.string k, .string u] 52)
  have b2 := Blk.new (w.alloc (.cells #[.int .i64 i] 3)) 52 #[.string k, .string u]
  go_enter Tryz.func88, Tryz.ntmps88
  go_wp2_with fail
  go_ret
  exact ⟨_, rfl, ⟨_, _, rfl, b1, by simpa using b2⟩, hB1⟩
theorem madePair (k0 k1 m hh : Int) (tk : Option Nat) (b : Nat) (ours : Bool) (f : Value) (i : Int) (k u : ByteArray) (R : Nat → World → Prop) (w : World) (hf : isPair w f i k u)
    (ho : ours = true ∨ ∀ w', Below w.heap.size w w' → Calls Tryz.prog 69 #[.pointer (some ⟨b, 0, none⟩), pt tk] w' fun e w'' => e = .returned (.bool false) ∧ w' = w'')
    (h : ∀ w', Below w.heap.size w w' → Calls Tryz.prog 21 #[.pointer (some ⟨b, 0, none⟩), pt tk, .int .i64 i, .agg #[.string k, .string u]] w' (RetB R)) :
    Calls Tryz.prog 84 #[.agg #[.int .u64 k0, .int .u64 k1, .int .u64 m, .int .u64 hh, pt tk], .pointer (some ⟨b, 0, none⟩), .bool ours, f] w (RetB R) := by
  obtain ⟨X1, X2, rfl, h1, h2⟩ := hf
  obtain ⟨tv, htv⟩ : ∃ tv, tv = pt tk := ⟨_, rfl⟩
  obtain ⟨T, hT⟩ : ∃ T, tv = .pointer T := by cases tk <;> exact ⟨_, htv⟩
  rw [← htv] at ho h ⊢
  subst hT
  clear htv
  have hB0 := (Below.refl _ w).alloc (Nat.le_refl _) (.cells #[.int .u64 k0, .int .u64 k1, .int .u64 m, .int .u64 hh, .pointer T] 112)
  have hbx := Blk.new w 112 #[.int .u64 k0, .int .u64 k1, .int .u64 m, .int .u64 hh, .pointer T]
  have ks := stepPair (.pointer (some ⟨b, 0, none⟩)) (.pointer T) i k u X1 X2 R _ (h1.below hB0) (h2.below hB0) (h _ hB0)
  cases ours with
  | true =>
    clear ho h h1 h2
    go_enter Tryz.func84, Tryz.ntmps84
    go_upto_region 1 with (fail)
    generalize w.alloc (.cells #[.int .u64 k0, .int .u64 k1, .int .u64 m, .int .u64 hh, .pointer T] 112) = W at *
    generalize w.heap.size = N at *
    have c4 : W.cell? ⟨N, 4, none⟩ = some (.pointer T) := hbx.cell 4
    go_wp2_with fail
    refine ks.mono ?_
    rintro e w1 ⟨b1, rfl, hR⟩
    go_wp2_with fail
    go_ret
    exact ⟨b1, rfl, hR⟩
  | false =>
    have ko := (ho.resolve_left (by simp)) _ hB0
    clear ho h h1 h2
    go_enter Tryz.func84, Tryz.ntmps84
    go_upto_region 1 with (fail)
    generalize w.alloc (.cells #[.int .u64 k0, .int .u64 k1, .int .u64 m, .int .u64 hh, .pointer T] 112) = W at *
    generalize w.heap.size = N at *
    have c4 : W.cell? ⟨N, 4, none⟩ = some (.pointer T) := hbx.cell 4
    go_wp2_with fail
    refine ko.mono ?_
    rintro e w' ⟨rfl, rfl⟩
    go_wp2_with fail
    refine ks.mono ?_
    rintro e w1 ⟨b1, rfl, hR⟩
    go_wp2_with fail
    go_ret
    exact ⟨b1, rfl, hR⟩
theorem stepKid (nv tv : Value) (i : Int) (kb : Nat) (X1 X2 : Nat) (R : Nat → World → Prop) (w : World) (h1 : Blk w X1 3 #[.int .i64 i]) (h2 : Blk w X2 29 #[.pointer (some ⟨kb, 0, none⟩)]) (h : Calls Tryz.prog 23 #[nv, tv, .int .i64 i, .pointer (some ⟨kb, 0, none⟩)] w (RetB R)) :
    Calls Tryz.prog 112 #[nv, tv, .pointer (some ⟨X1, 0, none⟩), .pointer (some ⟨X2, 0, none⟩)] w (RetB R) := by
  have c00 : w.cell? ⟨X1, 0, none⟩ = some (.int .i64 i) := h1.cell 0
  have c10 : w.cell? ⟨X2, 0, none⟩ = some (.pointer (some ⟨kb, 0, none⟩)) := h2.cell 0
  clear h1 h2
  go_enter Tryz.func112, Tryz.ntmps112
  go_wp2_with fail
  refine h.mono ?_
  rintro e w' ⟨b, rfl, hR⟩
  go_wp2_with fail
  go_ret
  exact ⟨b, rfl, hR⟩
def isKid (w : World) (f : Value) (i : Int) (kb : Nat) : Prop := ∃ X1 X2, f = .func (.func 112) #[] #[.pointer (some ⟨X1, 0, none⟩), .pointer (some ⟨X2, 0, none⟩)] ∧ Blk w X1 3 #[.int .i64 i] ∧ Blk w X2 29 #[.pointer (some ⟨kb, 0, none⟩)]
theorem isKid.below {w w' : World} {f : Value} {i : Int} {kb : Nat} (h : isKid w f i kb) (hB : Below w.heap.size w w') : isKid w' f i kb := by
  obtain ⟨X1, X2, e, h1, h2⟩ := h
  exact ⟨X1, X2, e, h1.below hB, h2.below hB⟩
theorem mkKid (i : Int) (kb : Nat) (w : World) :
    Calls Tryz.prog 86 #[.int .i64 i, .pointer (some ⟨kb, 0, none⟩)] w fun e w' => ∃ f, e = .returned f ∧ isKid w' f i kb ∧ Below w.heap.size w w' := by
  have hmf : ∀ (fn : Fn) (first cap : Array Value) (w : World), (Instr.makeFunc fn first cap).run Tryz.prog w = .ok (.func fn first cap) w := fun _ _ _ _ => rfl
  have hB0 := (Below.refl _ w).alloc (Nat.le_refl _) (.cells #[.int .i64 i] 3)
  have hB1 := hB0.alloc hB0.size (.cells #[.pointer (some ⟨kb, 0, none⟩)] 29)
  have b1 := (Blk.new w 3 #[.int .i64 i]).alloc (.cells #[.pointer (some ⟨kb, 0, none⟩)] 29)
  have b2 := Blk.new (w.alloc (.cells #[.int .i64 i] 3)) 29 #[.pointer (some ⟨kb, 0, none⟩)]
  go_enter Tryz.func86, Tryz.ntmps86
  go_wp2_with fail
  go_ret
  exact ⟨_, rfl, ⟨_, _, rfl, b1, by simpa using b2⟩, hB1⟩
theorem madeKid (k0 k1 m hh : Int) (tk : Option Nat) (b : Nat) (ours : Bool) (f : Value) (i : Int) (kb : Nat) (R : Nat → World → Prop) (w : World) (hf : isKid w f i kb)
    (ho : ours = true ∨ ∀ w', Below w.heap.size w w' → Calls Tryz.prog 69 #[.pointer (some ⟨b, 0, none⟩), pt tk] w' fun e w'' => e = .returned (.bool false) ∧ w' = w'')
    (h : ∀ w', Below w.heap.size w w' → Calls Tryz.prog 23 #[.pointer (some ⟨b, 0, none⟩), pt tk, .int .i64 i, .pointer (some ⟨kb, 0, none⟩)] w' (RetB R)) :
    Calls Tryz.prog 84 #[.agg #[.int .u64 k0, .int .u64 k1, .int .u64 m, .int .u64 hh, pt tk], .pointer (some ⟨b, 0, none⟩), .bool ours, f] w (RetB R) := by
  obtain ⟨X1, X2, rfl, h1, h2⟩ := hf
  obtain ⟨tv, htv⟩ : ∃ tv, tv = pt tk := ⟨_, rfl⟩
  obtain ⟨T, hT⟩ : ∃ T, tv = .pointer T := by cases tk <;> exact ⟨_, htv⟩
  rw [← htv] at ho h ⊢
  subst hT
  clear htv
  have hB0 := (Below.refl _ w).alloc (Nat.le_refl _) (.cells #[.int .u64 k0, .int .u64 k1, .int .u64 m, .int .u64 hh, .pointer T] 112)
  have hbx := Blk.new w 112 #[.int .u64 k0, .int .u64 k1, .int .u64 m, .int .u64 hh, .pointer T]
  have ks := stepKid (.pointer (some ⟨b, 0, none⟩)) (.pointer T) i kb X1 X2 R _ (h1.below hB0) (h2.below hB0) (h _ hB0)
  cases ours with
  | true =>
    clear ho h h1 h2
    go_enter Tryz.func84, Tryz.ntmps84
    go_upto_region 1 with (fail)
    generalize w.alloc (.cells #[.int .u64 k0, .int .u64 k1, .int .u64 m, .int .u64 hh, .pointer T] 112) = W at *
    generalize w.heap.size = N at *
    have c4 : W.cell? ⟨N, 4, none⟩ = some (.pointer T) := hbx.cell 4
    go_wp2_with fail
    refine ks.mono ?_
    rintro e w1 ⟨b1, rfl, hR⟩
    go_wp2_with fail
    go_ret
    exact ⟨b1, rfl, hR⟩
  | false =>
    have ko := (ho.resolve_left (by simp)) _ hB0
    clear ho h h1 h2
    go_enter Tryz.func84, Tryz.ntmps84
    go_upto_region 1 with (fail)
    generalize w.alloc (.cells #[.int .u64 k0, .int .u64 k1, .int .u64 m, .int .u64 hh, .pointer T] 112) = W at *
    generalize w.heap.size = N at *
    have c4 : W.cell? ⟨N, 4, none⟩ = some (.pointer T) := hbx.cell 4
    go_wp2_with fail
    refine ko.mono ?_
    rintro e w' ⟨rfl, rfl⟩
    go_wp2_with fail
    refine ks.mono ?_
    rintro e w1 ⟨b1, rfl, hR⟩
    go_wp2_with fail
    go_ret
    exact ⟨b1, rfl, hR⟩
theorem stepPut (nv tv : Value) (k u : ByteArray) (X1 : Nat) (R : Nat → World → Prop) (w : World) (h1 : Blk w X1 52 #[.string k, .string u]) (h : Calls Tryz.prog 40 #[nv, tv, .agg #[.string k, .string u]] w (RetB R)) :
    Calls Tryz.prog 111 #[nv, tv, .pointer (some ⟨X1, 0, none⟩)] w (RetB R) := by
  have c00 : w.cell? ⟨X1, 0, none⟩ = some (.string k) := h1.cell 0
  have c01 : w.cell? ⟨X1, 1, none⟩ = some (.string u) := h1.cell 1
  clear h1
  go_enter Tryz.func111, Tryz.ntmps111
  go_wp2_with fail
  refine h.mono ?_
  rintro e w' ⟨b, rfl, hR⟩
  go_wp2_with fail
  go_ret
  exact ⟨b, rfl, hR⟩
def isPut (w : World) (f : Value) (k u : ByteArray) : Prop := ∃ X1, f = .func (.func 111) #[] #[.pointer (some ⟨X1, 0, none⟩)] ∧ Blk w X1 52 #[.string k, .string u]
theorem isPut.below {w w' : World} {f : Value} {k u : ByteArray} (h : isPut w f k u) (hB : Below w.heap.size w w') : isPut w' f k u := by
  obtain ⟨X1, e, h1⟩ := h
  exact ⟨X1, e, h1.below hB⟩
theorem mkPut (k u : ByteArray) (w : World) :
    Calls Tryz.prog 85 #[.agg #[.string k, .string u]] w fun e w' => ∃ f, e = .returned f ∧ isPut w' f k u ∧ Below w.heap.size w w' := by
  have hmf : ∀ (fn : Fn) (first cap : Array Value) (w : World), (Instr.makeFunc fn first cap).run Tryz.prog w = .ok (.func fn first cap) w := fun _ _ _ _ => rfl
  have hB0 := (Below.refl _ w).alloc (Nat.le_refl _) (.cells #[.string k, .string u] 52)
  have b1 := Blk.new w 52 #[.string k, .string u]
  go_enter Tryz.func85, Tryz.ntmps85
  go_wp2_with fail
  go_ret
  exact ⟨_, rfl, ⟨_, rfl, b1⟩, hB0⟩
theorem madePut (k0 k1 m hh : Int) (tk : Option Nat) (b : Nat) (ours : Bool) (f : Value) (k u : ByteArray) (R : Nat → World → Prop) (w : World) (hf : isPut w f k u)
    (ho : ours = true ∨ ∀ w', Below w.heap.size w w' → Calls Tryz.prog 69 #[.pointer (some ⟨b, 0, none⟩), pt tk] w' fun e w'' => e = .returned (.bool false) ∧ w' = w'')
    (h : ∀ w', Below w.heap.size w w' → Calls Tryz.prog 40 #[.pointer (some ⟨b, 0, none⟩), pt tk, .agg #[.string k, .string u]] w' (RetB R)) :
    Calls Tryz.prog 84 #[.agg #[.int .u64 k0, .int .u64 k1, .int .u64 m, .int .u64 hh, pt tk], .pointer (some ⟨b, 0, none⟩), .bool ours, f] w (RetB R) := by
  obtain ⟨X1, rfl, h1⟩ := hf
  obtain ⟨tv, htv⟩ : ∃ tv, tv = pt tk := ⟨_, rfl⟩
  obtain ⟨T, hT⟩ : ∃ T, tv = .pointer T := by cases tk <;> exact ⟨_, htv⟩
  rw [← htv] at ho h ⊢
  subst hT
  clear htv
  have hB0 := (Below.refl _ w).alloc (Nat.le_refl _) (.cells #[.int .u64 k0, .int .u64 k1, .int .u64 m, .int .u64 hh, .pointer T] 112)
  have hbx := Blk.new w 112 #[.int .u64 k0, .int .u64 k1, .int .u64 m, .int .u64 hh, .pointer T]
  have ks := stepPut (.pointer (some ⟨b, 0, none⟩)) (.pointer T) k u X1 R _ (h1.below hB0) (h _ hB0)
  cases ours with
  | true =>
    clear ho h h1
    go_enter Tryz.func84, Tryz.ntmps84
    go_upto_region 1 with (fail)
    generalize w.alloc (.cells #[.int .u64 k0, .int .u64 k1, .int .u64 m, .int .u64 hh, .pointer T] 112) = W at *
    generalize w.heap.size = N at *
    have c4 : W.cell? ⟨N, 4, none⟩ = some (.pointer T) := hbx.cell 4
    go_wp2_with fail
    refine ks.mono ?_
    rintro e w1 ⟨b1, rfl, hR⟩
    go_wp2_with fail
    go_ret
    exact ⟨b1, rfl, hR⟩
  | false =>
    have ko := (ho.resolve_left (by simp)) _ hB0
    clear ho h h1
    go_enter Tryz.func84, Tryz.ntmps84
    go_upto_region 1 with (fail)
    generalize w.alloc (.cells #[.int .u64 k0, .int .u64 k1, .int .u64 m, .int .u64 hh, .pointer T] 112) = W at *
    generalize w.heap.size = N at *
    have c4 : W.cell? ⟨N, 4, none⟩ = some (.pointer T) := hbx.cell 4
    go_wp2_with fail
    refine ko.mono ?_
    rintro e w' ⟨rfl, rfl⟩
    go_wp2_with fail
    refine ks.mono ?_
    rintro e w1 ⟨b1, rfl, hR⟩
    go_wp2_with fail
    go_ret
    exact ⟨b1, rfl, hR⟩
end Go.Proofs.YtchimfgbdfmegaaGreat
/- A trie behind one changed node. -/
namespace Go.Proofs.YtchimfgbdfmegaaGreat
open Go.RowKit Go.Lib
set_option linter.unusedVariables false
set_option maxRecDepth 100000
set_option linter.unusedSimpArgs false
set_option maxRecDepth 100000
attribute [local irreducible] cnt
/-- who changes: his token, which blocks may be his own -/
structure Cx (X : Nat → Prop) (tk : Option Nat) (lv : Bool) (base : Nat) (w : World) : Prop where
  tv : TV w tk lv
  yes : lv = true → ∀ x, w.heap.size ≤ x → X x
  no : lv = false → ∀ x, w.heap.size ≤ x → ¬ X x
  base : base ≤ w.heap.size
  tok : lv = true → ∀ t, tk = some t → ¬ X t
/-- .. of a node that is changed -/
structure NodeW (X : Nat → Prop) (own : Bool) (ft : List Nat) (Fs : Nat → Nat → Prop) (F : Nat → Prop) : Prop where
  yes : own = true → (∀ x ∈ ft, X x) ∧ (∀ x, F x ↔ x ∈ ft ∨ ∃ c, c < 32 ∧ Fs c x) ∧ (∀ c x, c < 32 → Fs c x → x ∉ ft) ∧ (∀ c c' x, c < 32 → c' < 32 → Fs c x → Fs c' x → c = c')
  no : own = false → (∀ x, ¬ F x) ∧ ∀ c x, c < 32 → ¬ Fs c x
theorem NodeF.w {X : Nat → Prop} {own : Bool} {ft : List Nat} {Fs : Nat → Nat → Prop} {F : Nat → Prop} (h : NodeF X own ft Fs F) : NodeW X own ft Fs F := ⟨h.yes, fun e => ⟨(h.no e).2.1, (h.no e).2.2⟩⟩
section
variable {H : ByteArray → Nat} {X F G : Nat → Prop} {tk : Option Nat} {lv : Bool} {base : Nat} {w w' w1 w2 : World}
theorem Cx.keep (h : Cx X tk lv base w) (hs : w.heap.size ≤ w'.heap.size) (hv : TV w' tk lv) : Cx X tk lv base w' :=
  ⟨hv, fun e x hx => h.yes e x (Nat.le_trans hs hx), fun e x hx => h.no e x (Nat.le_trans hs hx), Nat.le_trans h.base hs, h.tok⟩
theorem Cx.below (h : Cx X tk lv base w) (hb : Below w.heap.size w w') : Cx X tk lv base w' := h.keep hb.size (h.tv.below hb)
theorem own_new (tk : Option Nat) (lv : Bool) : ownB (newOw tk lv) tk lv = lv := by
  unfold ownB newOw
  cases lv <;> simp
theorem tv_new (h : TV w tk lv) (hx : lv = true → ∀ t, tk = some t → ¬ X t) : ∃ lo, TVX X w (newOw tk lv) lo := by
  unfold newOw
  cases lv with
  | true => exact ⟨true, h, fun t e => hx rfl t (by simpa using e)⟩
  | false => exact ⟨false, TV.nil _, fun t e => by simp at e⟩
theorem Trie.noLive : ∀ (n l b : Nat) (ps : List Pr) (F : Nat → Prop), Trie H X tk false base w n l b ps F → ∀ x, ¬ F x
  | 0, l, b, ps, F, h => by
    obtain ⟨ow, pv, kv, lo, hB, hv, hN⟩ := h
    exact (hN.no (by simp [ownB])).2.1
  | n + 1, l, b, ps, F, h => by
    obtain ⟨ow, pv, kv, lo, S, Fs, hI, hv, hN, hS⟩ := h
    exact (hN.no (by simp [ownB])).2.1
/-- facts of a chunk's own blocks -/
theorem SlotIs.facts {n l : Nat} {s : Sl} {qs : List Pr} (h : SlotIs (fun k qs G => Trie H X tk lv base w n l k qs G) s qs G) : (∀ x, G x → X x) ∧ (∀ x, G x → (∀ cs, ¬ Blk w x 107 cs) ∧ x < w.heap.size ∧ base ≤ x) ∧ (lv = false → ∀ x, ¬ G x) := by
  unfold SlotIs at h
  cases s with
  | no => exact ⟨fun x hx => absurd hx (h.2 x), fun x hx => absurd hx (h.2 x), fun _ => h.2⟩
  | pr p => exact ⟨fun x hx => absurd hx (h.2 x), fun x hx => absurd hx (h.2 x), fun _ => h.2⟩
  | kd k =>
    refine ⟨Trie.inX _ _ _ _ _ h.2, Trie.blocks _ _ _ _ _ h.2, fun e => ?_⟩
    subst e
    exact Trie.noLive _ _ _ _ _ h.2
theorem SlotIs.keep {n l : Nat} {s : Sl} {qs : List Pr} {Y : Nat → Prop} (h : SlotIs (fun k qs G => Trie H X tk lv base w n l k qs G) s qs G) (hT : ∀ t l, TV w t l → TV w' t l) (hk : KeepF Y w w') (h1 : ∀ x, Y x → ¬ G x) (h2 : ∀ x, Y x → X x) :
    SlotIs (fun k qs G => Trie H X tk lv base w' n l k qs G) s qs G := by
  unfold SlotIs at h ⊢
  cases s with
  | no => exact h
  | pr p => exact h
  | kd k => exact ⟨h.1, Trie.keep hT _ _ _ _ _ Y h.2 hk h1 h2⟩
/-- what a change of a trie leaves -/
def ChPost (H : ByteArray → Nat) (X : Nat → Prop) (tk : Option Nat) (lv : Bool) (base n l : Nat) (ps : List Pr) (F : Nat → Prop) (w : World) (b : Nat) (w' : World) : Prop :=
  ∃ F', Trie H X tk lv base w' n l b ps F' ∧ KeepF F w w' ∧ TV w' tk lv ∧ ∀ y, F' y → F y ∨ w.heap.size ≤ y
theorem Trie.change {n l b i : Nat} {ps ps' qs : List Pr} {ow : Option Nat} {pv kv : Value} {S : Slots} {Fs : Nat → Nat → Prop} {x : Sl} {e : Ending}
    (hcx : Cx X tk lv base w) (hI : Inn base w b ow S pv kv) (hN : NodeW X (ownB ow tk lv) (foot b pv kv) Fs F)
    (hS : ∀ c, c < 32 → SlotIs (fun k qs G => Trie H X tk lv base w n (l + 1) k qs G) (S c) (sub H l c ps) (Fs c))
    (hi : i < 32) (hk : KeepF (Fs i) w w1) (hx : SlotIs (fun k qs G => Trie H X tk lv base w1 n (l + 1) k qs G) x qs G) (hG : ∀ y, G y → Fs i y ∨ w.heap.size ≤ y)
    (hp : InnPost base (ownB ow tk lv) b pv kv (newOw tk lv) (S.put i x) w1 e w2)
    (h1 : ∀ c, c ≠ i → sub H l c ps' = sub H l c ps) (h2 : sub H l i ps' = qs) :
    RetB (ChPost H X tk lv base (n + 1) l ps' F w) e w2 := by
  obtain ⟨b1, pv1, kv1, rfl, hI1, hcg⟩ := hp
  have hfi := (hS i hi).facts
  have hfG := hx.facts
  have hs1 := hk.size
  have hT1 : ∀ t l, TV w t l → TV w1 t l := fun t l hv => hv.keepF hk fun x hx => (hfi.2.1 x hx).1
  have hfoot := hI.footLt
  -- own blocks of the node
  have hkB : Keep (if ownB ow tk lv = true then foot b pv kv else []) w1 w2 := hcg.keep
  obtain ⟨Y, hYk, hY⟩ : ∃ Y : Nat → Prop, KeepF Y w1 w2 ∧ ∀ x, Y x ↔ (ownB ow tk lv = true ∧ x ∈ foot b pv kv) := by
    refine ⟨fun x => ownB ow tk lv = true ∧ x ∈ foot b pv kv, (KeepF.ofKeep hkB).mono fun x hx => .inl ?_, fun x => Iff.rfl⟩
    cases ho : ownB ow tk lv with
    | true => rw [ho] at hx; exact ⟨rfl, by simpa using hx⟩
    | false => rw [ho] at hx; simp at hx
  have hI1w : Inn base w1 b ow S pv kv := by
    obtain ⟨Z, hZ, hZF⟩ := hk.keep
    refine hI.keep hZ fun x hx hm => ?_
    cases ho : ownB ow tk lv with
    | true => rw [ho] at hN; exact (hN.yes rfl).2.2.1 i x hi (hZF x hm) hx
    | false => rw [ho] at hN; exact (hN.no rfl).2 i x hi (hZF x hm)
  have hT2 : ∀ t l, TV w1 t l → TV w2 t l := fun t l hv => hv.keepF hYk fun x hx => hI1w.noTok x ((hY x).1 hx).2
  have hYX : ∀ x, Y x → X x := fun x hx => by
    obtain ⟨ho, hx⟩ := (hY x).1 hx
    exact (hN.yes ho).1 x hx
  -- the chunks' own blocks, changed
  obtain ⟨Fs', hFs'⟩ : ∃ Fs' : Nat → Nat → Prop, Fs' = fun c y => if c = i then G y else Fs c y := ⟨_, rfl⟩
  have ei : ∀ y, Fs' i y ↔ G y := fun y => by rw [hFs']; simp
  have ec : ∀ c y, c ≠ i → (Fs' c y ↔ Fs c y) := fun c y hc => by rw [hFs']; simp [hc]
  have hold : ∀ c y, c < 32 → Fs c y → ownB ow tk lv = true ∧ y < w.heap.size ∧ y ∉ foot b pv kv := fun c y hc hy => by
    cases ho : ownB ow tk lv with
    | false => rw [ho] at hN; exact absurd hy ((hN.no rfl).2 c y hc)
    | true => rw [ho] at hN; exact ⟨rfl, ((hS c hc).facts.2.1 y hy).2.1, (hN.yes rfl).2.2.1 c y hc hy⟩
  have hGf : ∀ y, G y → y ∉ foot b pv kv ∨ ownB ow tk lv = false := fun y hy => by
    rcases hG y hy with hy | hy
    · exact .inl (hold i y hi hy).2.2
    · exact .inl fun hm => by have := hfoot y hm; omega
  have hown : ∀ y, Y y → ∀ c, c < 32 → ¬ Fs' c y := fun y hy c hc hf => by
    obtain ⟨ho, hy⟩ := (hY y).1 hy
    by_cases e : c = i
    · subst e
      rcases hGf y ((ei y).1 hf) with h | h
      · exact h hy
      · rw [ho] at h; cases h
    · exact (hold c y hc ((ec c y e).1 hf)).2.2 hy
  have hlo : lv = false → ownB ow tk lv = false := fun e => by rw [e]; simp [ownB]
  refine ⟨b1, rfl, fun y => lv = true ∧ (y ∈ foot b1 pv1 kv1 ∨ ∃ c, c < 32 ∧ Fs' c y), ?_, ?_, hT2 _ _ (hT1 _ _ hcx.tv), ?_⟩
  · obtain ⟨lo, hlo2⟩ := tv_new (hT2 _ _ (hT1 _ _ hcx.tv)) hcx.tok
    refine ⟨newOw tk lv, pv1, kv1, lo, S.put i x, Fs', hI1, hlo2, ?_, fun c hc => ?_⟩
    · rw [own_new]
      constructor
      · intro e
        refine ⟨fun y hy => ?_, fun y => by simp [e], fun c y hc hf hm => ?_, fun c c' y hc hc' hf hf' => ?_⟩
        · rcases hcg.foot y hy with ⟨ho, hm⟩ | hm
          · exact (hN.yes ho).1 y hm
          · exact hcx.yes e y (Nat.le_trans hs1 hm)
        · rcases hcg.foot y hm with ⟨ho, hm⟩ | hm
          · exact hown y ((hY y).2 ⟨ho, hm⟩) c hc hf
          · by_cases ee : c = i
            · subst ee
              have := (hfG.2.1 y ((ei y).1 hf)).2.1
              omega
            · have := (hold c y hc ((ec c y ee).1 hf)).2.1
              omega
        · by_cases e1 : c = i
          · by_cases e2 : c' = i
            · rw [e1, e2]
            · exfalso
              subst e1
              have hf2 := (ec c' y e2).1 hf'
              have h3 := hold c' y hc' hf2
              rcases hG y ((ei y).1 hf) with h | h
              · exact e2 ((hN.yes h3.1).2.2.2 c' c y hc' hc hf2 h)
              · omega
          · by_cases e2 : c' = i
            · exfalso
              subst e2
              have hf2 := (ec c y e1).1 hf
              have h3 := hold c y hc hf2
              rcases hG y ((ei y).1 hf') with h | h
              · exact e1 ((hN.yes h3.1).2.2.2 c c' y hc hc' hf2 h)
              · omega
            · have hf1 := (ec c y e1).1 hf
              have hf2 := (ec c' y e2).1 hf'
              exact (hN.yes (hold c y hc hf1).1).2.2.2 c c' y hc hc' hf1 hf2
      · intro e
        refine ⟨fun y hy => ?_, fun y hy => by simp [e] at hy, fun c y hc hf => ?_⟩
        · rcases hcg.foot y hy with ⟨ho, _⟩ | hm
          · rw [hlo e] at ho; cases ho
          · exact hcx.no e y (Nat.le_trans hs1 hm)
        by_cases ee : c = i
        · subst ee
          exact hfG.2.2 e y ((ei y).1 hf)
        · have := (hold c y hc ((ec c y ee).1 hf)).1
          rw [hlo e] at this; cases this
    · by_cases ee : c = i
      · subst ee
        have hz : SlotIs (fun k qs G => Trie H X tk lv base w2 n (l + 1) k qs G) x qs G := hx.keep hT2 hYk (fun y hy hg => hown y hy c hc ((ei y).2 hg)) hYX
        have e1 : Fs' c = G := funext fun y => propext (ei y)
        rw [e1, h2]
        simpa [Slots.put] using hz
      · have h3 : SlotIs (fun k qs G => Trie H X tk lv base w1 n (l + 1) k qs G) (S c) (sub H l c ps) (Fs c) := (hS c hc).keep hT1 hk (fun y hy hg => by
          have h4 := hold c y hc hg
          exact ee ((hN.yes h4.1).2.2.2 c i y hc hi hg hy)) hfi.1
        have h4 : SlotIs (fun k qs G => Trie H X tk lv base w2 n (l + 1) k qs G) (S c) (sub H l c ps) (Fs c) := h3.keep hT2 hYk (fun y hy hg => hown y hy c hc ((ec c y ee).2 hg)) hYX
        have e1 : Fs' c = Fs c := funext fun y => propext (ec c y ee)
        rw [e1, h1 c ee]
        simpa [Slots.put, ee] using h4
  · have hFi : ∀ y, Fs i y → F y := fun y hy => ((hN.yes (hold i y hi hy).1).2.1 y).2 (.inr ⟨i, hi, hy⟩)
    exact (hk.mono fun y hy => .inl (hFi y hy)).trans (hYk.mono fun y hy => .inl (by
      obtain ⟨ho, hy⟩ := (hY y).1 hy
      exact ((hN.yes ho).2.1 y).2 (.inl hy)))
  · rintro y ⟨e, hy | ⟨c, hc', hy⟩⟩
    · rcases hcg.foot y hy with ⟨ho, hm⟩ | hm
      · exact .inl (((hN.yes ho).2.1 y).2 (.inl hm))
      · exact .inr (Nat.le_trans hs1 hm)
    · by_cases ee : c = i
      · subst ee
        rcases hG y ((ei y).1 hy) with h | h
        · exact .inl (((hN.yes (hold c y hi h).1).2.1 y).2 (.inr ⟨c, hi, h⟩))
        · exact .inr h
      · have h := (ec c y ee).1 hy
        exact .inl (((hN.yes (hold c y hc' h).1).2.1 y).2 (.inr ⟨c, hc', h⟩))
end
end Go.Proofs.YtchimfgbdfmegaaGreat
