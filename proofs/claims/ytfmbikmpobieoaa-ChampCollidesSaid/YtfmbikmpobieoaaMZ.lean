/- Same of package pair. -/
import Derived.Test.YtfmbikmpobieoaaMP
import Derived.Laws.StructEq
import Derived.Test.YtfmbikmpobieoaaMY
import Derived.Test.YtfmbikmpobieoaaMG
import Derived.BigQuiet
import Derived.Deep.RegionHeld3
namespace Go.Proofs.Ytfmbikmpobieoaa
open Go.RowKit Go.Lib
set_option linter.unusedVariables false
set_option linter.unusedSimpArgs false
set_option maxRecDepth 100000
set_option maxRecDepth 100000 in
set_option maxHeartbeats 4000000 in
theorem equal_any (A B : Option Addr) (ca cb : Nat) (xs ys : List Pr) (w : World) (hA : Rd w A xs) (hB : Rd w B ys) (hn : xs.length ≤ 1000) (hm : ys.length ≤ 1000) :
    Calls Try.prog 30 #[.slice A xs.length ca, .slice B ys.length cb] w fun e w' => e = .returned (.bool (leq xs ys)) ∧ ∃ n, w' = w.drewN n := by
  obtain ⟨n, hxs⟩ : ∃ n, n = xs.length := ⟨_, rfl⟩
  obtain ⟨m, hys⟩ : ∃ m, m = ys.length := ⟨_, rfl⟩
  have hneq := fun p q w => neq33 p q w
  rw [← hxs, ← hys]
  rw [← hxs] at hn
  rw [← hys] at hm
  have HX := Lib.hid hxs
  have HY := Lib.hid hys
  have HA := Lib.hid hA
  have HB := Lib.hid hB
  clear hxs hys hA hB
  by_cases hnm : n = m
  · subst hnm
    go_enter Try.func30, Try.ntmps30
    go_wp2_with fail
    go_loopw [13] (fun i wr => ∃ k : Nat, k ≤ n ∧ i = .int .i64 k ∧ Hid (xs.take k = ys.take k) ∧ ∃ q, wr = w.drewN q) (fun i wr => n - (intOf i).toNat)
    case atStart => exact ⟨0, by omega, rfl, Lib.hid rfl, 0, rfl⟩
    case round =>
      obtain ⟨k, hk, rfl, hE, q, rfl⟩ := hrel
      by_cases hlt : k < n
      · obtain ⟨ga, oa, rfl, a0, a1⟩ := (HA.out.drewN q).at k (by rw [← HX.out]; exact hlt)
        obtain ⟨gb, ob, rfl, b0, b1⟩ := (HB.out.drewN q).at k (by rw [← HY.out]; exact hlt)
        have hd : ∀ k, (w.drewN q).drewN k = w.drewN (q + k) := fun k => by simp [World.drewN, Nat.add_assoc]
        generalize hW : w.drewN q = W at *
        have HW := Lib.hid hW
        have HD := Lib.hid hd
        clear hd hW
        cases he : peq (pat xs k) (pat ys k) with
        | true =>
          have S := Lib.hid (leq_step (by rw [← HX.out, ← HY.out]) (by rw [← HX.out]; exact hlt) hE.out he)
          have hq := hneq (pat xs k) (pat ys k)
          rw [he] at hq
          clear hneq he
          go_wp2_with fail
          go_quiet (fail)
          go_wp2_with fail
          exact ⟨⟨k + 1, by omega, by go_num, S, q + nq, HD.out nq⟩, by simp [intOf]; omega⟩
        | false =>
          have S := Lib.hid (leq_no he)
          have hq := hneq (pat xs k) (pat ys k)
          rw [he] at hq
          clear hneq he
          go_wp2_with fail
          go_quiet (fail)
          go_wp2_with fail
          go_ret
          rw [S.out]
          exact ⟨rfl, q + nq, HD.out nq⟩
      · obtain rfl : k = n := by omega
        go_wp2_with fail
        go_ret
        have h := hE.out
        have : leq xs ys = true := by
          unfold leq
          rw [List.take_of_length_le (by rw [← HX.out]; omega), List.take_of_length_le (by rw [← HY.out]; omega)] at h
          simp [h]
        rw [this]
        exact ⟨rfl, q, rfl⟩
  · have : leq xs ys = false := by
      unfold leq
      rw [decide_eq_false_iff_not]
      rintro rfl; exact hnm (HX.out.trans HY.out.symm)
    rw [this]
    have F1 : ¬ ((n : Int) = (m : Int)) := by omega
    go_enter Try.func30, Try.ntmps30
    go_wp2_with fail
    go_ret
    exact ⟨rfl, 0, rfl⟩
theorem same_any (A B : Option Addr) (ca cb : Nat) (xs ys : List Pr) (w : World) (hA : Rd w A xs) (hB : Rd w B ys) (hn : xs.length ≤ 1000) (hm : ys.length ≤ 1000) :
    Calls Try.prog 14 #[.slice A xs.length ca, .slice B ys.length cb] w fun e w' => e = .returned (.bool (leq xs ys)) ∧ ∃ n, w' = w.drewN n := by
  go_enter Try.func14, Try.ntmps14
  go_wp2_with fail
  refine (equal_any A B ca cb xs ys w hA hB hn hm).mono ?_
  rintro e w' ⟨rfl, n, rfl⟩
  go_wp2_with fail
  go_ret
  exact ⟨rfl, n, rfl⟩
end Go.Proofs.Ytfmbikmpobieoaa
/- Tries of keys whose hashes are all alike: one way down. A key that was handed in. -/
namespace Go.Proofs.Ytfmbikmpobieoaa
open Go.ChangeShapes Go.WideShapes Go.RowKit Go.Lib Go.Deep
set_option linter.unusedVariables false
set_option linter.unusedSimpArgs false
set_option maxRecDepth 100000
attribute [local irreducible] cnt
theorem cells24 : Try.prog.cellsOf 24 = 2 := by kernel_rfl
theorem cells22 : Try.prog.cellsOf 22 = 1 := by kernel_rfl
theorem u64_wf {n : Int} (h : (Lit.int .u64 n).wf = true) : U64 n := by have := bounds_u64 h; unfold U64; omega
theorem open_key {H : Type} {enc : TypeId × Value → H} {W : World} {b base : Nat} {spare : Nat → Bool} {held : Bool} {v : Value} {d : DataW H} {p : List MemPlace}
    (hv : Value.okWide Try.prog W .any b 24 v) (h : DataW.Trod enc Try.prog W base spare held 24 v d p) : ∃ k0 k1, v = .agg #[.int .u64 k0, .int .u64 k1] ∧ U64 k0 ∧ U64 k1 := by
  obtain ⟨cs0, rfl, hsz0⟩ := okWide_struct Try.underlying24 hv
  rw [cells24] at hsz0
  obtain ⟨x0, y0, rfl⟩ : ∃ x y, cs0 = #[x, y] := by
    match cs0, hsz0 with
    | ⟨[x, y]⟩, _ => exact ⟨x, y, rfl⟩
  obtain ⟨fu0, hf0⟩ := h
  obtain ⟨s0, s1, n0, hx0, _, g0, g1⟩ := trod_struct2 Try.underlying24 hf0
  try simp [cells22] at g0 g1
  obtain ⟨a0, e0, _, w0⟩ := DataW.trod_int Try.underlying22 g0
  obtain ⟨b0, e1, _, u0⟩ := DataW.trod_int Try.underlying22 g1
  simp [Value.cells] at e0 e1
  subst e0 e1
  exact ⟨a0, b0, rfl, u64_wf w0, u64_wf u0⟩
theorem hz_zero (k0 k1 : Int) (k : ByteArray) : hz k0 k1 0 k = 0 := by
  unfold hz
  have h := Sip.sipZ_lt k0 k1 k.data.toList
  obtain ⟨n, hn⟩ : ∃ n : Nat, Sip.sipZ k0 k1 k.data.toList = n := ⟨_, (Int.toNat_of_nonneg h.1).symm⟩
  rw [hn] at h ⊢
  have h2 := bits_and_u64_nat n 0 (by omega) (by omega)
  unfold Sip.an
  have e : bits .and .u64 (n : Int) 0 = ((n &&& 0 : Nat) : Int) := h2
  rw [e]
  simp
section
variable {H : ByteArray → Nat} {X F : Nat → Prop} {tk : Option Nat} {lv : Bool} {base : Nat} {w : World} {n l b : Nat} {ps : List Pr}
theorem sub_all (hH : ∀ k, H k = 0) : sub H l 0 ps = ps := by
  unfold sub chk
  rw [List.filter_eq_self]
  intro a _
  simp [hH]
theorem sub_no (hH : ∀ k, H k = 0) {c : Nat} (hc : c ≠ 0) : sub H l c ps = [] := by
  unfold sub chk
  rw [List.filter_eq_nil_iff]
  intro a _
  simp [hH]
  omega
theorem fm_nil {α : Type} (f : Nat → Option α) (m : Nat) (h : ∀ i, i < m → f i = none) : fm f m = [] := by
  unfold fm
  rw [List.filterMap_eq_nil_iff]
  intro i hi
  exact h i (List.mem_range.1 hi)
theorem rest_nil {α : Type} (f : Nat → Option α) (h : ∀ i, i < 32 → i ≠ 0 → f i = none) : rest f 0 = [] := by
  unfold rest
  rw [List.filterMap_eq_nil_iff]
  intro i hi
  rw [List.mem_range'_1] at hi
  exact h i (by omega) (by omega)
theorem bits_nil {d : Nat} {f : Nat → Bool} (h : BitsOf d f) (hf : ∀ i, i < 32 → f i = false) : d = 0 := by
  apply Nat.eq_of_testBit_eq
  intro i
  rw [Nat.zero_testBit]
  by_cases hi : i < 32
  · rw [h.bit i hi, hf i hi]
  · exact testBit_big h.lt (by omega)
theorem bits_one {d : Nat} {f : Nat → Bool} (h : BitsOf d f) (h0 : f 0 = true) (hf : ∀ i, i < 32 → i ≠ 0 → f i = false) : d = 1 := by
  apply Nat.eq_of_testBit_eq
  intro i
  by_cases hi : i < 32
  · rw [h.bit i hi]
    by_cases e : i = 0
    · subst e; rw [h0]; rfl
    · rw [hf i hi e]
      have : Nat.testBit 1 i = decide (i = 0) := by
        cases i with
        | zero => rfl
        | succ k => simp [Nat.testBit_succ]
      rw [this]; simp [e]
  · rw [testBit_big h.lt (by omega)]
    have : Nat.testBit 1 i = decide (i = 0) := by
      cases i with
      | zero => rfl
      | succ k => simp [Nat.testBit_succ]
    rw [this]
    simp; omega
theorem slots_no (hH : ∀ k, H k = 0) {S : Slots} {Fs : Nat → Nat → Prop} (hS : ∀ c, c < 32 → SlotIs (fun k qs G => Trie H X tk lv base w n (l + 1) k qs G) (S c) (sub H l c ps) (Fs c)) : ∀ c, c < 32 → c ≠ 0 → S c = .no := fun c hc h0 => by
  have h := hS c hc
  rw [sub_no hH h0] at h
  unfold SlotIs at h
  cases hs : S c with
  | no => rfl
  | pr p => rw [hs] at h; simp at h
  | kd k => rw [hs] at h; simp at h
/-- two pairs at least: one child, in chunk 0 -/
theorem coll_step (hH : ∀ k, H k = 0) (h : Trie H X tk lv base w (n + 1) l b ps F) (h2 : 2 ≤ ps.length) : ∃ ow pv kv k G, NdV base w b ow false 0 1 pv kv [] [k] ∧ Trie H X tk lv base w n (l + 1) k ps G := by
  obtain ⟨ow, pv, kv, lo, S, Fs, ⟨d, nn, hN, hd, hk⟩, hv, hNF, hS⟩ := h
  have hno := slots_no hH hS
  have h0 := hS 0 (by decide)
  rw [sub_all hH] at h0
  unfold SlotIs at h0
  cases hs : S 0 with
  | no => rw [hs] at h0; rw [h0.1] at h2; simp at h2
  | pr p => rw [hs] at h0; rw [h0.1] at h2; simp at h2
  | kd k =>
    rw [hs] at h0
    have eP : fm S.P 32 = [] := fm_nil _ _ fun i hi => by
      by_cases e : i = 0
      · subst e; show (S 0).p? = none; rw [hs]; rfl
      · show (S i).p? = none; rw [hno i hi e]; rfl
    have eK : fm S.K 32 = [k] := by
      rw [fm_split S.K 0 (by decide)]
      have e0 : S.K 0 = some k := by show (S 0).k? = some k; rw [hs]; rfl
      rw [e0, rest_nil S.K (fun i hi e => by show (S i).k? = none; rw [hno i hi e]; rfl)]
      rfl
    have hd0 : d = 0 := bits_nil hd fun i hi => by
      by_cases e : i = 0
      · subst e; show ((S 0).p?).isSome = false; rw [hs]; rfl
      · show ((S i).p?).isSome = false; rw [hno i hi e]; rfl
    have hn1 : nn = 1 := bits_one hk (by show ((S 0).k?).isSome = true; rw [hs]; rfl) fun i hi e => by show ((S i).k?).isSome = false; rw [hno i hi e]; rfl
    rw [eP, eK, hd0, hn1] at hN
    exact ⟨_, pv, kv, k, _, hN, h0.2⟩
/-- one pair at most -/
theorem coll_few (hH : ∀ k, H k = 0) (h : Trie H X tk lv base w (n + 1) l b ps F) (h2 : ps.length < 2) : ∃ ow pv kv d nn xs, NdV base w b ow false d nn pv kv xs [] ∧ xs.length = ps.length := by
  obtain ⟨ow, pv, kv, lo, S, Fs, ⟨d, nn, hN, hd, hk⟩, hv, hNF, hS⟩ := h
  have hno := slots_no hH hS
  have h0 := hS 0 (by decide)
  rw [sub_all hH] at h0
  unfold SlotIs at h0
  have eK : fm S.K 32 = [] := fm_nil _ _ fun i hi => by
    by_cases e : i = 0
    · subst e
      show (S 0).k? = none
      cases hs : S 0 with
      | no => rfl
      | pr p => rfl
      | kd k => rw [hs] at h0; have := h0.1; omega
    · show (S i).k? = none; rw [hno i hi e]; rfl
  rw [eK] at hN
  refine ⟨_, pv, kv, d, nn, _, hN, ?_⟩
  rw [fm_split S.P 0 (by decide), rest_nil S.P (fun i hi e => by show (S i).p? = none; rw [hno i hi e]; rfl)]
  have e00 : fm S.P 0 = [] := rfl
  rw [e00, List.nil_append, List.append_nil]
  show ((S 0).p?).toList.length = ps.length
  cases hs : S 0 with
  | no => rw [hs] at h0; rw [h0.1]; rfl
  | pr p => rw [hs] at h0; rw [h0.1]; rfl
  | kd k => rw [hs] at h0; have := h0.1; omega
theorem coll_end (h : Trie H X tk lv base w 0 l b ps F) : ∃ ow pv kv, NdV base w b ow true 0 0 pv kv ps [] := by
  obtain ⟨ow, pv, kv, lo, hB, hv, hN⟩ := h
  exact ⟨_, pv, kv, hB.1⟩
end

theorem keep5 {w w' : World} {N2 N3 : Nat} {a b c d e : Value} (h : w.cell? ⟨N2, 0, none⟩ = some a ∧ w.cell? ⟨N2, 1, none⟩ = some b ∧ w.cell? ⟨N2, 2, none⟩ = some c ∧ w.cell? ⟨N3, 0, none⟩ = some d ∧ w.cell? ⟨N3, 1, none⟩ = some e) (hb : Below w.heap.size w w') :
    w'.cell? ⟨N2, 0, none⟩ = some a ∧ w'.cell? ⟨N2, 1, none⟩ = some b ∧ w'.cell? ⟨N2, 2, none⟩ = some c ∧ w'.cell? ⟨N3, 0, none⟩ = some d ∧ w'.cell? ⟨N3, 1, none⟩ = some e := by
  obtain ⟨h1, h2, h3, h4, h5⟩ := h
  exact ⟨(hb.cell (World.block_lt_of_cell? w _ h1)).trans h1, (hb.cell (World.block_lt_of_cell? w _ h2)).trans h2, (hb.cell (World.block_lt_of_cell? w _ h3)).trans h3, (hb.cell (World.block_lt_of_cell? w _ h4)).trans h4, (hb.cell (World.block_lt_of_cell? w _ h5)).trans h5⟩
end Go.Proofs.Ytfmbikmpobieoaa
/- Tries that keep away from some blocks, beside a row of pairs that grows. -/
namespace Go.Proofs.Ytfmbikmpobieoaa
open Go.RowKit Go.Lib
set_option linter.unusedVariables false
set_option linter.unusedSimpArgs false
set_option maxRecDepth 100000
attribute [local irreducible] cnt
theorem blk_lt {w : World} {b : Nat} {o : Obj} (h : w.heap[b]? = some o) : b < w.heap.size := (Array.getElem?_eq_some_iff.1 h).1
/-- a trie that stands, where a block of another kind is written -/
theorem NdV.noTy {base : Nat} {w : World} {b : Nat} {o : Value} {bk : Bool} {d nn : Nat} {pv kv : Value} {xs : List Pr} {ks : List Nat} (h : NdV base w b o bk d nn pv kv xs ks) {g : Nat} {cs : Array Value} {t : TypeId} (hb : Blk w g t cs) (h1 : t ≠ 63) (h2 : t ≠ 32) (h3 : t ≠ 29) : ∀ x ∈ foot b pv kv, x ≠ g := by
  rintro x hx rfl
  simp only [foot, List.mem_cons, List.mem_append, Option.mem_toList] at hx
  unfold Blk at hb
  rcases hx with rfl | e | e
  · have := h.blk; unfold Blk at this; rw [this] at hb; simp at hb; exact h1 hb.2.symm
  · obtain ⟨cur, hc⟩ := own_cells h.prs x e; rw [hc] at hb; simp at hb; exact h2 hb.2.symm
  · obtain ⟨cur, hc⟩ := own_cells h.kds x e; rw [hc] at hb; simp at hb; exact h3 hb.2.symm
theorem TV.noTy {w : World} {ow : Option Nat} {lo : Bool} (h : TV w ow lo) {g : Nat} {cs : Array Value} {t : TypeId} (hb : Blk w g t cs) (h4 : t ≠ 110) : ow ≠ some g := by
  rintro rfl
  rcases h with ⟨h, _⟩ | ⟨t', p, id, e, h⟩
  · cases h
  · cases e
    unfold Tok at h
    unfold Blk at h hb
    rw [h] at hb; simp at hb; exact h4 hb.2.symm
theorem TV.old {w : World} {t : Nat} {lo : Bool} (h : TV w (some t) lo) : t < w.heap.size := by
  rcases h with ⟨h, _⟩ | ⟨t', p, id, e, h⟩
  · cases h
  · cases e
    exact blk_lt h
/-- blocks from which a trie keeps away -/
theorem Trie.setX {H : ByteArray → Nat} {base : Nat} {w : World} {X X' : Nat → Prop} (hX : ∀ x, X' x → X x ∨ w.heap.size ≤ x ∨ ∃ t cs, Blk w x t cs ∧ t ≠ 63 ∧ t ≠ 32 ∧ t ≠ 29 ∧ t ≠ 110) : ∀ (n l b : Nat) (ps : List Pr) (F : Nat → Prop), Trie H X none false base w n l b ps F → Trie H X' none false base w n l b ps (fun _ => False)
  | 0, l, b, ps, F, h => by
    obtain ⟨ow, pv, kv, lo, hB, hv, hN⟩ := h
    have hn := hN.no (by simp [ownB])
    refine ⟨ow, pv, kv, lo, hB, ⟨hv.tv, fun t e hx => by
    subst e
    rcases hX t hx with h | h | ⟨_, _, h, _, _, _, h4⟩
    · exact hv.no t rfl h
    · have := hv.tv.old; omega
    · exact hv.tv.noTy h h4 rfl⟩, fun e => by simp [ownB] at e, fun _ => ⟨fun x hx hx' => ?_, fun _ h => h, fun _ _ _ h => h⟩⟩
    rcases hX x hx' with h | h | ⟨t, cs, h, h1, h2, h3, -⟩
    · exact hn.1 x hx h
    · have := hB.1.footLt x hx; omega
    · exact hB.1.noTy h h1 h2 h3 x hx rfl
  | n + 1, l, b, ps, F, h => by
    obtain ⟨ow, pv, kv, lo, S, Fs, hI, hv, hN, hS⟩ := h
    have hn := hN.no (by simp [ownB])
    refine ⟨ow, pv, kv, lo, S, fun _ _ => False, hI, ⟨hv.tv, fun t e hx => by
    subst e
    rcases hX t hx with h | h | ⟨_, _, h, _, _, _, h4⟩
    · exact hv.no t rfl h
    · have := hv.tv.old; omega
    · exact hv.tv.noTy h h4 rfl⟩, ⟨fun e => by simp [ownB] at e, fun _ => ⟨fun x hx hx' => ?_, fun _ h => h, fun _ _ _ h => h⟩⟩, fun c hc => ?_⟩
    · rcases hX x hx' with h | h | ⟨t, cs, h, h1, h2, h3, -⟩
      · exact hn.1 x hx h
      · have := hI.footLt x hx; omega
      · obtain ⟨d, nn, hN', -, -⟩ := hI
        exact hN'.noTy h h1 h2 h3 x hx rfl
    have := hS c hc
    unfold SlotIs at this ⊢
    cases hs : S c with
    | no => rw [hs] at this; exact ⟨this.1, fun _ h => h⟩
    | pr p => rw [hs] at this; exact ⟨this.1, fun _ h => h⟩
    | kd k => rw [hs] at this; exact ⟨this.1, Trie.setX hX n (l + 1) k _ _ this.2⟩
/-- a trie that keeps away from X -/
def TX (X : Nat → Prop) (k0 k1 m : Int) (base : Nat) (w : World) (b : Nat) (ps : List Pr) : Prop := Trie (hz k0 k1 m) X none false base w 13 0 b ps (fun _ => False)
section
variable {X X' : Nat → Prop} {k0 k1 m : Int} {base : Nat} {w w' : World} {b : Nat} {ps : List Pr}
theorem TX.below (h : TX X k0 k1 m base w b ps) (hb : Below w.heap.size w w') : TX X k0 k1 m base w' b ps := Trie.below h hb
theorem TX.set (h : TX X k0 k1 m base w b ps) (hX : ∀ x, X' x → X x ∨ w.heap.size ≤ x ∨ ∃ t cs, Blk w x t cs ∧ t ≠ 63 ∧ t ≠ 32 ∧ t ≠ 29 ∧ t ≠ 110) : TX X' k0 k1 m base w b ps := Trie.setX hX _ _ _ _ _ h
theorem TP.tx (h : TP k0 k1 m base w b ps) (hX : ∀ x, X' x → w.heap.size ≤ x ∨ ∃ t cs, Blk w x t cs ∧ t ≠ 63 ∧ t ≠ 32 ∧ t ≠ 29 ∧ t ≠ 110) : TX X' k0 k1 m base w b ps := Trie.setX (fun x hx => .inr (hX x hx)) _ _ _ _ _ h
theorem TX.keep (h : TX X k0 k1 m base w b ps) (hk : KeepF X w w') (hX : ∀ x, X x → ∀ cs, ¬ Blk w x 110 cs) : TX X k0 k1 m base w' b ps :=
  Trie.keep (fun t l hv => hv.keepF hk hX) 13 0 b ps _ X h hk (fun _ _ h => h) (fun _ h => h)
theorem cx_X (hb : base ≤ w.heap.size) (hX : ∀ x, X x → x < w.heap.size) : Cx X none false base w := ⟨TV.nil _, fun h => by simp at h, fun _ x hx h => by have := hX x h; omega, hb, fun h => by simp at h⟩
theorem ChPost.tx {b1 : Nat} (h : ChPost (hz k0 k1 m) X none false base 13 0 ps (fun _ => False) w b1 w') : TX X k0 k1 m base w' b1 ps ∧ Below w.heap.size w w' := by
  obtain ⟨F', hT, hK, -, -⟩ := h
  exact ⟨Trie.setX (fun x hx => .inl hx) _ _ _ _ _ hT, hK.below fun _ h => h⟩
theorem put_X (p : Pr) (h0 : U64 k0) (h1 : U64 k1) (hs : p.1.size ≤ 1000) (hb : base ≤ w.heap.size) (hX : ∀ x, X x → x < w.heap.size) (h : TX X k0 k1 m base w b ps) (hr : RisesL ps) (hn : ps.length ≤ 700) (hz1 : ∀ x ∈ ps, x.1.size ≤ 1000) :
    Calls Try.prog 6 #[.agg #[.int .u64 k0, .int .u64 k1, .int .u64 m], .pointer none, .pointer (some ⟨b, 0, none⟩), .agg #[.string p.1, .string p.2]] w fun e w' => ∃ b', e = .returned (.tuple #[.pointer (some ⟨b', 0, none⟩), .bool (getK ps p.1).isNone]) ∧ TX X k0 k1 m base w' b' (putK ps p) ∧ Below w.heap.size w w' := by
  cases hg : getK ps p.1 with
  | none =>
    refine (Put_none k0 k1 m _ none false base none p.1 p.2 b ps _ w rfl h0 h1 hs (cx_X hb hX) h hr hn hz1 hg).mono ?_
    rintro e w1 ⟨b1, rfl, hP⟩
    exact ⟨b1, rfl, hP.tx.1, hP.tx.2⟩
  | some v =>
    by_cases hv : v = p.2
    · subst hv
      refine (Put_same k0 k1 m _ none false base none p.1 p.2 b ps _ w rfl h0 h1 hs h hn hg).mono ?_
      rintro e w1 ⟨rfl, hB⟩
      exact ⟨b, rfl, by rw [put_same hr hg]; exact h.below hB, hB⟩
    · refine (Put_other k0 k1 m _ none false base none p.1 p.2 b ps _ w rfl h0 h1 hs (cx_X hb hX) h hr hn hz1 v hg hv).mono ?_
      rintro e w1 ⟨b1, rfl, hP⟩
      exact ⟨b1, rfl, hP.tx.1, hP.tx.2⟩
end
def atBlk (v : Value) : Nat → Prop := fun x => v.ownBlock = some x
theorem TX.grow {k0 k1 m : Int} {base n b : Nat} {W W' : World} {v v' : Value} {xs : List Value} {ps : List Pr} (h : TX (atBlk v) k0 k1 m base W b ps) (hr : W.ownsRow base 32 2 v n xs) (hg : W.grownBy W' v.ownBlock) (ha : v'.ownBlock = v.ownBlock ∨ v'.ownBlock = some W.heap.size) : TX (atBlk v') k0 k1 m base W' b ps := by
  have kk := keep_grown hg
  have hty : ∀ x, v.ownBlock = some x → ∃ cs, Blk W x 32 cs := fun x hx => own_cells hr x hx
  have hKF : KeepF (fun x => atBlk v x ∨ W.heap.size ≤ x) W W' := (KeepF.ofKeep kk).mono fun x hx => .inl (.inl (by simpa [atBlk] using hx))
  have t1 : TX (fun x => atBlk v x ∨ W.heap.size ≤ x) k0 k1 m base W b ps := h.set fun x hx => by
    rcases hx with hx | hx
    · exact .inl hx
    · exact .inr (.inl hx)
  have t2 := t1.keep hKF fun x hx cs hB => by
    rcases hx with hx | hx
    · obtain ⟨cs', hc⟩ := hty x hx
      unfold Blk at hc hB
      rw [hc] at hB; simp at hB
    · have := blk_lt hB; omega
  exact t2.set fun x hx => .inl (by
    unfold atBlk at hx
    rcases ha with ha | ha
    · exact .inl (ha.symm.trans hx)
    · rw [ha] at hx
      simp at hx
      exact .inr (by omega))
theorem TX.free {k0 k1 m : Int} {base b : Nat} {w : World} {v : Value} {ps : List Pr} (h : TX (atBlk v) k0 k1 m base w b ps) : TP k0 k1 m base w b ps := Trie.setX (X' := fun _ => False) (fun x hx => hx.elim) _ _ _ _ _ h
end Go.Proofs.Ytfmbikmpobieoaa
