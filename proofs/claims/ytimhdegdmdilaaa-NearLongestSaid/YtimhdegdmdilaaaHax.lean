/- Prefixes in a rising list. -/
import Derived.Test.YtimhdegdmdilaaaHav
import Derived.BigQuiet
import Derived.Deep.RegionHeld3
namespace Go.Proofs.Ytimhdegdmdilaaa
open Go.RowKit Go.Lib
set_option linter.unusedVariables false
set_option linter.unnecessarySimpa false
set_option linter.unusedSimpArgs false
set_option linter.unnecessarySimpa false
set_option maxRecDepth 100000
theorem ext_data (k : ByteArray) (n : Nat) : (k.extract 0 n).data.toList = k.data.toList.take n := by
  rw [ByteArray.data_extract]
  simp [Array.toList_extract, List.extract_eq_take_drop]
section
variable {X L : List Pr} {q : Pr} {k : ByteArray}
/-- without its last byte the last prefix asks for all prefixes but itself -/
theorem pf_short (hr : RisesL X) (h : X.filter (pfP k) = L ++ [q]) (hq : 0 < q.1.size) : X.filter (pfP (q.1.extract 0 (q.1.size - 1))) = L := by
  have hk : ∀ p, pfP k p = true ↔ p.1.data.toList <+: k.data.toList := fun p => by simp [pfP]
  have hk' : ∀ p, pfP (q.1.extract 0 (q.1.size - 1)) p = true ↔ p.1.data.toList <+: q.1.data.toList ∧ p.1.data.toList.length ≤ q.1.size - 1 := fun p => by
    simp only [pfP, decide_eq_true_eq, ext_data]
    exact List.prefix_take_iff
  have hqk : q.1.data.toList <+: k.data.toList := (hk q).1 (List.mem_filter.1 (show q ∈ X.filter (pfP k) by rw [h]; simp)).2
  have h1 : X.filter (pfP (q.1.extract 0 (q.1.size - 1))) = (X.filter (pfP k)).filter (pfP (q.1.extract 0 (q.1.size - 1))) := by
    rw [List.filter_filter]
    refine List.filter_congr fun p _ => ?_
    cases e : pfP (q.1.extract 0 (q.1.size - 1)) p with
    | false => rfl
    | true =>
      have := (hk' p).1 e
      rw [(hk p).2 (this.1.trans hqk)]
      rfl
  have hlq : q.1.data.toList.length = q.1.size := size_of q.1
  rw [h1, h, List.filter_append, List.filter_eq_self.2, List.filter_eq_nil_iff.2, List.append_nil]
  · intro p hp
    rw [List.mem_singleton] at hp
    subst hp
    rw [hk']
    intro hh
    have := hh.2
    omega
  · intro p hp
    rw [hk']
    have hF : RisesL (X.filter (pfP k)) := List.Pairwise.filter _ hr
    rw [h] at hF
    have hlt : compareBytes p.1.data.toList q.1.data.toList < 0 := (List.pairwise_append.1 hF).2.2 p hp q (by simp)
    have hpk : p.1.data.toList <+: k.data.toList := (hk p).1 (List.mem_filter.1 (show p ∈ X.filter (pfP k) by rw [h]; simp [hp])).2
    have hpq : p.1.data.toList <+: q.1.data.toList := by
      rcases List.prefix_or_prefix_of_prefix hpk hqk with h | h
      · exact h
      · have := cb_pfx h
        rw [cb_neg] at this
        omega
    refine ⟨hpq, ?_⟩
    have hle := hpq.length_le
    rcases Nat.lt_or_ge p.1.data.toList.length q.1.data.toList.length with h | h
    · omega
    · have := hpq.eq_of_length (by omega)
      rw [this, (cb_zero _ _).2 rfl] at hlt
      omega
theorem pf_test {p : Pr} (h : p.1.size ≤ k.size) : pfP k p = ((k.extract 0 p.1.size).toList == p.1.toList) := by
  have e : p.1.data.toList.length = p.1.size := size_of p.1
  rw [ByteArray.toList_eq, ByteArray.toList_eq, ext_data, ← e]
  unfold pfP
  rw [Bool.eq_iff_iff]
  simp only [decide_eq_true_eq, beq_iff_eq]
  exact ⟨fun h => (List.prefix_iff_eq_take.1 h).symm, fun h => List.prefix_iff_eq_take.2 h.symm⟩
theorem pf_long {p : Pr} (h : k.size < p.1.size) : pfP k p = false := by
  unfold pfP
  refine decide_eq_false fun hh => ?_
  have := hh.length_le
  have e1 : p.1.data.toList.length = p.1.size := size_of p.1
  have e2 : k.data.toList.length = k.size := size_of k
  omega
/-- the candidates that the law gathers from behind -/
def cand (X : List Pr) (k : ByteArray) (j : Nat) : List Pr := ((X.drop j).filter (pfP k)).reverse
theorem cand_end : cand X k X.length = [] := by simp [cand]
theorem cand_yes {j : Nat} (hj : j < X.length) (h : pfP k (pat X j) = true) : cand X k j = cand X k (j + 1) ++ [pat X j] := by
  unfold cand
  rw [List.drop_eq_getElem_cons hj, ← pat_nth hj, List.filter_cons_of_pos h, List.reverse_cons]
theorem cand_no {j : Nat} (hj : j < X.length) (h : pfP k (pat X j) = false) : cand X k j = cand X k (j + 1) := by
  unfold cand
  rw [List.drop_eq_getElem_cons hj, ← pat_nth hj, List.filter_cons_of_neg (by rw [h]; simp)]
theorem cand_len (j : Nat) : (cand X k j).length ≤ X.length := by
  unfold cand
  rw [List.length_reverse]
  exact Nat.le_trans (List.length_filter_le _ _) (by simp)
end
end Go.Proofs.Ytimhdegdmdilaaa
/- NearLongest: at ever shorter keys. -/
namespace Go.Proofs.Ytimhdegdmdilaaa.nearLongest
open Go.RowKit Go.Lib
set_option linter.unusedVariables false
set_option linter.unnecessarySimpa false
set_option linter.unusedSimpArgs false
set_option linter.unnecessarySimpa false
set_option maxRecDepth 100000
noncomputable def lo11 : Code := (Try.f8.body.bind (fromRegion 11)).getD .skip
set_option maxHeartbeats 8000000 in
theorem lo11_any (post : Ending → World → Prop) (w0 w : World) (b : Nat) (X C : List Pr) (k : ByteArray) (A7 : Option Addr) (c7 : Nat) (hB : Below w0.heap.size w0 w) (hT : PW w b X) (hO : OwnR w0.heap.size w (.slice A7 C.length c7) C) (hC : C = (X.filter (pfP k)).reverse) (hk : k.size ≤ 1000) (hlC : C.length ≤ 40) (hpost : ∀ w', Below w0.heap.size w0 w' → post (.returned (.bool true)) w') (x0 x2 x3 x4 x6 x8 x9 x10 x11 x12 x13 x14 x15 x16 x17 x18 x19 x20 x21 x22 x23 x24 x25 x26 x27 x28 x29 x30 x31 x32 x33 x34 x35 x36 x37 x38 x39 x40 x41 x42 x43 x44 x45 x46 x47 x48 x49 x50 x51 x52 x53 x54 x55 x56 x57 x58 x59 x60 x61 x62 x63 x64 x65 x66 x67 x68 x69 x70 x71 x72 x73 x74 x75 x76 x77 x78 x79 x80 x81 x82 x83 x84 x85 x86 x87 x88 x89 x90 x91 x92 x93 x94 x95 x96 x97 x98 x99 x100 x101 x102 x103 x104 : Value) :
    Code.wp Try.prog lo11 (bodyPost Try.prog Try.f8 post) ⟨#[x0, .string k, x2, x3, x4, .pointer (some ⟨b, 0, none⟩), x6, .slice A7 C.length c7, x8, x9, x10, x11, x12, x13, x14, x15, x16, x17, x18, x19, x20, x21, x22, x23, x24, x25, x26, x27, x28, x29, x30, x31, x32, x33, x34, x35, x36, x37, x38, x39, x40, x41, x42, x43, x44, x45, x46, x47, x48, x49, x50, x51, x52, x53, x54, x55, x56, x57, x58, x59, x60, x61, x62, x63, x64, x65, x66, x67, x68, x69, x70, x71, x72, x73, x74, x75, x76, x77, x78, x79, x80, x81, x82, x83, x84, x85, x86, x87, x88, x89, x90, x91, x92, x93, x94, x95, x96, x97, x98, x99, x100, x101, x102, x103, x104], []⟩ w := by
  have HR := Lib.hid hT.rises
  have HKS := Lib.hid hT.keys
  have HP := Lib.hid hpost
  obtain ⟨F, hF⟩ : ∃ F, F = X.filter (pfP k) := ⟨_, rfl⟩
  obtain ⟨CN, hCN⟩ : ∃ CN, CN = C.length := ⟨_, rfl⟩
  have hFC : F.length = CN := by rw [hCN, hC, ← hF, List.length_reverse]
  have HFC := Lib.hid hFC
  have HCN := Lib.hid hCN
  have HF := Lib.hid hF
  have HPAT := Lib.hid (fun j (hj : j < CN) => by
    have h1 : j < C.length := by rw [← hCN]; exact hj
    rw [pat_nth h1, pat_nth (show CN - 1 - j < F.length by omega)]
    simp only [hC, ← hF, List.getElem_reverse]
    congr 1
    omega : ∀ j, j < CN → pat C j = pat F (CN - 1 - j))
  rw [← hCN] at hlC hO ⊢
  clear hpost hC hF hFC hCN
  simp only []
  conv => arg 2; whnf
  go_wp2_with fail
  go_loopw [9, 69] (fun v9 vi wr => ∃ (j : Nat) (κ : ByteArray), j ≤ CN ∧ vi = .int .i64 j ∧ v9 = .string κ ∧ κ.size ≤ 1000 ∧ Hid (X.filter (pfP κ) = F.take (CN - j)) ∧ PW wr b X ∧ OwnR w0.heap.size wr (.slice A7 CN c7) C ∧ Below w0.heap.size w0 wr) (fun v9 vi wr => CN - (RowKit.intOf vi).toNat)
  case atStart => exact ⟨0, k, by omega, rfl, rfl, hk, Lib.hid (by rw [← HF.out, List.take_of_length_le (by rw [HFC.out]; omega)]), hT, hO, hB⟩
  case round =>
    clear hT hO hB hk HF
    obtain ⟨j, κ, hj, rfl, rfl, hκ, hX, hT, hO, hB⟩ := hrel
    by_cases hlt : j < CN
    · obtain ⟨A', c', e', hRd⟩ := hO.rd
      simp only [Value.slice.injEq] at e'
      obtain ⟨rfl, -, rfl⟩ := e'
      obtain ⟨g, off, hA, y0, y1⟩ := hRd.at j (by rw [← HCN.out]; exact hlt)
      rw [HPAT.out j hlt] at y0 y1
      have hlq : CN - 1 - j < F.length := by rw [HFC.out]; omega
      have hcut : F.take (CN - j) = F.take (CN - 1 - j) ++ [pat F (CN - 1 - j)] := by
        rw [show CN - j = (CN - 1 - j) + 1 by omega, List.take_succ_eq_append_getElem hlq, pat_nth hlq]
      have hX2 : X.filter (pfP κ) = F.take (CN - 1 - j) ++ [pat F (CN - 1 - j)] := hX.out.trans hcut
      have hlast : lastPf X κ = some (pat F (CN - 1 - j)) := by unfold lastPf; rw [hX2, List.getLast?_concat]
      have hmem : pat F (CN - 1 - j) ∈ X := (List.mem_filter.1 (show pat F (CN - 1 - j) ∈ X.filter (pfP κ) by rw [hX2]; simp)).1
      have hsz := HKS.out _ hmem
      have HS := Lib.hid (fun hq => pf_short HR.out hX2 hq)
      have kb := fun wr (hT : PW wr b X) => longest_list hT κ hκ
      rw [hlast] at kb
      generalize pat F (CN - 1 - j) = q at *
      obtain ⟨qk, qv⟩ := q
      dsimp only at y0 y1 hsz HS
      subst hA
      have L1 : (j : Int) < (CN : Int) := by omega
      have L2 : IntKind.i64.wrap ((j : Int) + 1) = ((j + 1 : Nat) : Int) := by rw [IntWalk.i64_in _ (by omega)]; omega
      clear hX hX2 hlast hmem hRd hcut hlq
      go_upto_region 15 with (fail)
      have hBl := (Below.refl _ wr).alloc (Nat.le_refl _) (.cells #[.string qk, .string qv] 33)
      have bX := Blk.new wr 33 #[.string qk, .string qv]
      have hT := hT.below hBl
      have hO := hO.below' hBl
      have hB := hB.trans (hBl.mono hB.size)
      clear hBl y0 y1
      generalize wr.alloc (.cells #[.string qk, .string qv] 33) = W at *
      generalize wr.heap.size = N8 at *
      have kb := kb W hT
      unfold entP at kb
      dsimp only at kb
      unfold at0 at kb
      go_wp2_with fail
      refine kb.mono ?_
      rintro e W3 ⟨rfl, hB3⟩
      have hBl := (Below.refl _ W3).alloc (Nat.le_refl _) (.cells #[.string qk, .string qv] 29)
      have bQ := Blk.new W3 29 #[.string qk, .string qv]
      have bX := (bX.below hB3).below hBl
      have hT := (hT.below hB3).below hBl
      have hO := (hO.below' hB3).below' hBl
      have hB := (hB.trans (hB3.mono hB.size)).trans (hBl.mono (Nat.le_trans hB.size hB3.size))
      clear kb hB3 hBl
      go_upto_region 16 with (fail)
      generalize W3.alloc (.cells #[.string qk, .string qv] 29) = W4 at *
      generalize W3.heap.size = N12 at *
      have p0 : W4.cell? ⟨N12, 0, none⟩ = some (.string qk) := bQ.cell 0
      have p1 : W4.cell? ⟨N12, 1, none⟩ = some (.string qv) := bQ.cell 1
      have q0 : W4.cell? ⟨N8, 0, none⟩ = some (.string qk) := bX.cell 0
      have q1 : W4.cell? ⟨N8, 1, none⟩ = some (.string qv) := bX.cell 1
      clear bX bQ
      cases hl : qk.data.toList with
      | nil =>
        obtain rfl : qk = ⟨#[]⟩ := bytes_ext (by rw [hl])
        have HB := Lib.hid hB
        clear hl hT hO hB HS hsz
        go_wp2_with fail
        exact HP.out _ HB.out
      | cons x s =>
        have hne := (str_ne hl).1
        have hpos : 0 < qk.size := by rw [← size_of, hl]; simp
        have HX' := Lib.hid (HS.out hpos)
        obtain ⟨Z, hZ⟩ : ∃ Z, Z = qk.size - 1 := ⟨_, rfl⟩
        have hw : IntKind.i64.wrap ((qk.size : Int) - 1) = (Z : Int) := by rw [IntWalk.i64_in _ (by omega)]; omega
        have hz1 : Z ≤ qk.size := by omega
        have hz2 : (Z : Int) ≤ (qk.size : Int) := by omega
        have hz3 : (0 : Int) ≤ (Z : Int) := by omega
        have hes : (qk.extract 0 Z).size ≤ 1000 := by rw [ByteArray.size_extract]; omega
        rw [← hZ] at HX'
        clear hl hZ HS
        go_wp2_with fail
        exact ⟨⟨j + 1, _, by omega, by go_num, rfl, hes, Lib.hid (by rw [HX'.out, show CN - (j + 1) = CN - 1 - j by omega]), hT, hO, hB⟩, by simp [RowKit.intOf]; omega⟩
    · obtain rfl : j = CN := by omega
      have G : ¬ ((j : Int) < (j : Int)) := by omega
      have hlast : lastPf X κ = none := by unfold lastPf; rw [hX.out]; simp
      have kb := longest_list hT κ hκ
      rw [hlast] at kb
      unfold entP at kb
      dsimp only at kb
      unfold at0 at kb
      clear hO hX hlast
      go_wp2_with fail
      refine kb.mono ?_
      rintro e W3 ⟨rfl, hB3⟩
      have hBl := (Below.refl _ W3).alloc (Nat.le_refl _) (.cells #[.string ⟨#[]⟩, .string ⟨#[]⟩] 29)
      have HB := Lib.hid ((hB.trans (hB3.mono hB.size)).trans (hBl.mono (Nat.le_trans hB.size hB3.size)))
      clear kb hB3 hBl hT hB
      go_wp2_with fail
      exact HP.out _ HB.out
end Go.Proofs.Ytimhdegdmdilaaa.nearLongest
