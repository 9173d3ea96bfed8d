/- TwigLongest: for every list of strings and every string the law returns true: the longest beginning is told, of alike ones the first. Conditions: none beyond the given statement. -/
import Derived.Test.YtgldgdpgbfejmaaRows
import Derived.WalkKit
import Derived.ProofKit
import Derived.OpenShut
import Derived.ShutString
import Derived.ChangeOld
import Derived.Below
import Derived.Carry
import Derived.Lib.SmallJoins
import Derived.SliceStrings
import Derived.Test.YtgldgdpgbfejmaaWe
namespace Go.Proofs.Ytgldgdpgbfejmaa.twigLongest
open Go.ChangeShapes Go.WideShapes Go.ChangeAt Go.RowKit Go.Joins
open Go.ChangeMaps (open_string shut_string)
set_option linter.unusedVariables false
set_option linter.unusedSimpArgs false

theorem own : ownKnob Try.prog.godebug = none := by kernel_rfl
theorem laidOut : laidOutB Try.prog = true := by kernel_rfl
open Go.RowKit Go.Lib
/-- a slice of strings that was handed in -/
def ArgS (w : World) (a : Option Addr) (len cap : Nat) (ss : List ByteArray) : Prop :=
  (a = none ∧ len = 0 ∧ cap = 0 ∧ ss = []) ∨
  ∃ x, a = some x ∧ ss.length = len ∧ len ≤ cap ∧ cap ≤ maxLen ∧ (∀ j u, ss[j]? = some u → w.cell? (x.add j) = some (.string u)) ∧ ∀ s ∈ ss, s.size ≤ maxLen
theorem info9 : (Try.prog.info? 9).map (fun i => (i.zero, i.size, i.bytes)) = some (some (.string ByteArray.empty), 1, 16) := by kernel_rfl
theorem own_ge {w : World} {base : Nat} {e : TypeId} {size n : Nat} {v : Value} {xs : List Value} (h : w.ownsRow base e size v n xs) : ∀ k, v.ownBlock = some k → base ≤ k := by
  rcases h.2 with ⟨rfl, _⟩ | ⟨g, cap, cur, rfl, hg, _⟩
  · intro k hk; simp [Value.ownBlock] at hk
  · intro k hk; simp [Value.ownBlock] at hk; omega
theorem own_form {w : World} {base : Nat} {e : TypeId} {size n : Nat} {v : Value} {xs : List Value} (h : w.ownsRow base e size v n xs) : ∃ A c, v = .slice A n c := by
  rcases h.2 with ⟨rfl, h0⟩ | ⟨g, cap, cur, rfl, hg, _⟩
  · exact ⟨none, 0, by rw [h0]⟩
  · exact ⟨_, cap, rfl⟩
/-- strings as a row's cells -/
def cel (xs : List ByteArray) : List Value := xs.map Value.string
theorem own_str {w : World} {base : Nat} {A : Option Addr} {c : Nat} {xs : List ByteArray} (h : w.ownsRow base 9 1 (.slice A xs.length c) xs.length (cel xs)) : StrR w A xs := by
  intro j x hj
  obtain ⟨hjl, hjx⟩ := List.getElem?_eq_some_iff.1 hj
  rcases h.2 with ⟨_, h0⟩ | ⟨g, cap, cur, e, hg, _⟩
  · omega
  · have e' := e
    simp only [Value.slice.injEq] at e'
    obtain ⟨rfl, _, rfl⟩ := e'
    refine ⟨g, 0, rfl, ?_⟩
    rw [Nat.zero_add, h.cellAt j (by omega)]
    simp [cel, hj]
theorem cell_one_new (w : World) (T : TypeId) (u : Value) : ∀ (j : Nat) (x : Value), ([u] : List Value)[j]? = some x → (w.alloc (.cells #[u] T)).cell? ((⟨w.heap.size, 0, none⟩ : Addr).add j) = some x := by
  intro j x hj
  cases j with
  | zero =>
    simp at hj
    subst hj
    simp [Addr.add, World.cell?, World.alloc, -World.alloc_eq]
  | succ j => simp at hj
theorem sat_snoc (xs : List ByteArray) (x : ByteArray) (hx : x.size ≤ 60) (h : ∀ j, (sat xs j).size ≤ 120) : ∀ j, (sat (xs ++ [x]) j).size ≤ 120 := by
  intro j
  unfold sat at *
  rw [List.getD_eq_getElem?_getD]
  rcases Nat.lt_trichotomy j xs.length with hj | hj | hj
  · rw [List.getElem?_append_left hj, ← List.getD_eq_getElem?_getD]; exact h j
  · subst hj; simp; omega
  · rw [List.getElem?_eq_none (by simp; omega)]; decide
set_option maxRecDepth 100000 in
set_option maxHeartbeats 8000000 in
theorem walk (a : Option Addr) (len cap : Nat) (ss : List ByteArray) (t : ByteArray) (w : World) (hA : ArgS w a len cap ss) (h1 : t.size ≤ maxLen) :
    Calls Try.prog 10 #[.slice a len cap, .string t] w fun e w' => e = .returned (.bool true) ∧ Below w.heap.size w w' := by
  obtain ⟨i0, hi, hz0, hz1, hz2⟩ := info_parts info9
  obtain ⟨T, hT, _f2⟩ := fewC t h1
  have hlen : len ≤ maxLen := by
    rcases hA with ⟨_, h, _⟩ | ⟨x, _, _, h2, h3, _⟩
    · rw [h]; exact Nat.zero_le _
    · omega
  unfold maxLen at hlen
  have hread : ∀ j wr, j < len → Below w.heap.size w wr → ∃ x u, a = some x ∧ wr.cell? (x.add j) = some (.string u) ∧ u.size ≤ maxLen := by
    intro j wr hj hb
    rcases hA with ⟨_, h, _⟩ | ⟨x, rfl, h2, h3, h4, h5, h6⟩
    · omega
    · have hg := List.getElem?_eq_getElem (show j < ss.length by omega)
      have := h5 j _ hg
      exact ⟨x, _, rfl, (hb.cell (World.block_lt_of_cell? w _ this)).trans this, h6 _ (List.getElem_mem _)⟩
  have HRD := Lib.hid hread
  clear hread hA
  go_enter Try.func10, Try.ntmps10
  go_wp2_with fail
  refine (awakeW w).mono ?_
  rintro e w1 ⟨rfl, hB1⟩
  go_wp2_with fail
  go_loopw [5, 18] (fun v i wr => ∃ (j : Nat) (xs : List ByteArray), j ≤ len ∧ i = .int .i64 j ∧ Hid (xs.length ≤ 20 ∧ (j < 20 → xs.length = j)) ∧ Hid (∀ k, (sat xs k).size ≤ 120) ∧ wr.ownsRow w.heap.size 9 1 v xs.length (cel xs) ∧ Below w.heap.size w wr) (fun v i wr => len - (intOf i).toNat)
  case atStart => exact ⟨0, [], by omega, rfl, Lib.hid ⟨by simp, fun _ => rfl⟩, Lib.hid (fun k => by simp [sat]), World.ownsRow_nil _ _ _ _, hB1⟩
  case round =>
    clear hB1
    obtain ⟨j, xs, hj, rfl, hL, hS, hrow, hB⟩ := hrel
    by_cases hlt : j < len
    · obtain ⟨x, u, rfl, hc, hu⟩ := HRD.out j wr hlt hB
      have E1 : IntKind.i64.wrap ((j : Int) + 1) = ((j + 1 : Nat) : Int) := by rw [IntWalk.i64_in _ (by omega)]; omega
      by_cases h20 : j < 20
      · obtain ⟨U, hU, _fu⟩ := fewC u hu
        have hll := hL.out.2 h20
        rw [hll] at hrow
        obtain ⟨g0, c0, rfl⟩ := own_form hrow
        have HLL := Lib.hid hll
        clear hll
        go_wp2_with (first
          | (go_at_call 36; refine (_fu _).mono ?_; rintro e w' ⟨rfl, rfl⟩)
          | (at_builtin; refine wpList_append_own _ rfl _ _ 76 rfl w.heap.size 9 i0 (.string ByteArray.empty) 1 16 Try.underlying76 hi hz0 hz1 hz2 rfl (by decide) _ _ _ rfl (hrow.alloc _) ⟨wr.heap.size, 0, none⟩ 1 1 [.string U] rfl rfl (cell_one_new _ _ _) (by simp [Value.oneCell']) (by unfold maxLen; omega) (by omega) (by have := hB.size; simp; omega) ?_; intro v' wa hown' hgrow hnil; obtain ⟨g', cap', rfl⟩ := own_form hown'))
        have hBa : Below w.heap.size w wa := (hB.alloc hB.size _).grown hgrow (by have := hB.size; simp; omega) (own_ge hrow)
        refine ⟨⟨j + 1, xs ++ [U], by omega, by go_num, Lib.hid ⟨by have := HLL.out; simp; omega, fun _ => by have := HLL.out; simp; omega⟩, Lib.hid (sat_snoc xs U hU hS.out), ?_, hBa⟩, by simp [intOf]; omega⟩
        rw [List.length_append, HLL.out]
        unfold cel
        rw [List.map_append]
        exact hown'
      · go_wp2_with fail
        exact ⟨⟨j + 1, xs, by omega, by go_num, Lib.hid ⟨hL.out.1, fun h => by omega⟩, hS, hrow, hB⟩, by simp [intOf]; omega⟩
    · clear HRD
      have hn := hL.out.1
      obtain ⟨A, c, rfl⟩ := own_form hrow
      have hR := own_str hrow
      have HS := hS.out
      clear hL hS hrow hlen
      go_wp2_with (go_at_call 36; refine (_f2 _).mono ?_; rintro e w' ⟨rfl, rfl⟩)
      refine (longest_any A c xs T wr hR (by omega) HS (by omega)).mono ?_
      rintro e wz ⟨at', f, rfl, hI, rfl⟩
      have HR := Lib.hid hR
      have HSS := Lib.hid HS
      have HI := Lib.hid hI
      obtain ⟨n, hxs⟩ : ∃ n, n = xs.length := ⟨_, rfl⟩
      rw [← hxs] at hn ⊢
      have HX := Lib.hid hxs
      clear hxs hR HS hI
      cases f with
      | false =>
        have hat : at' = 0 := (HI.out.1 rfl).1
        subst hat
        go_wp2_with fail
        go_loopw [43] (fun i wq => ∃ j : Nat, j ≤ n ∧ i = .int .i64 j ∧ Hid (StrR wq A xs) ∧ Below w.heap.size w wq) (fun i wq => n - (intOf i).toNat)
        case atStart => exact ⟨0, by omega, rfl, HR, hB⟩
        case round =>
          clear hB HR
          obtain ⟨j, hj, rfl, hR, hB⟩ := hrel
          by_cases hlt : j < n
          · have E1 : IntKind.i64.wrap ((j : Int) + 1) = ((j + 1 : Nat) : Int) := by rw [IntWalk.i64_in _ (by omega)]; omega
            obtain ⟨g, off, rfl, c0⟩ := hR.out.at j (by rw [← HX.out]; exact hlt)
            have hb := (HI.out.1 rfl).2 j (by rw [← HX.out]; exact hlt)
            have hz := HSS.out j
            go_wp2_with fail
            refine (refBeginsW _ _ _ (by omega) hz).mono ?_
            rw [hb]
            rintro e w' ⟨rfl, hb'⟩
            have hR' := Lib.hid (hR.out.keep hb')
            have hB' := Below.next hB hb'
            clear hb' hR hB c0
            go_wp2_with fail
            exact ⟨⟨j + 1, by omega, by go_num, hR', hB'⟩, by simp [intOf]; omega⟩
          · go_wp2_with fail
            go_ret
            exact ⟨rfl, hB⟩
      | true =>
        obtain ⟨ha, hab, -⟩ := HI.out.2 rfl
        rw [← HX.out] at ha
        go_wp2_with fail
        go_loopw [55] (fun i wq => ∃ j : Nat, j ≤ n ∧ i = .int .i64 j ∧ Hid (StrR wq A xs) ∧ Below w.heap.size w wq) (fun i wq => n - (intOf i).toNat)
        case atStart => exact ⟨0, by omega, rfl, HR, hB⟩
        case round =>
          clear hB HR
          obtain ⟨j, hj, rfl, hR, hB⟩ := hrel
          obtain ⟨g, off, rfl, c1⟩ := hR.out.at at' (by rw [← HX.out]; exact ha)
          by_cases hlt : j < n
          · have E1 : IntKind.i64.wrap ((j : Int) + 1) = ((j + 1 : Nat) : Int) := by rw [IntWalk.i64_in _ (by omega)]; omega
            obtain ⟨g', off', e', c0⟩ := hR.out.at j (by rw [← HX.out]; exact hlt)
            obtain ⟨rfl, rfl⟩ : g = g' ∧ off = off' := by simp at e'; exact ⟨e'.1, e'.2⟩
            clear e'
            have hz := HSS.out j
            have hza := HSS.out at'
            rcases hb : bgB T (sat xs j) with _ | _
            · go_wp2_with fail
              refine (refBeginsW _ _ _ (by omega) hz).mono ?_
              rw [hb]
              rintro e w' ⟨rfl, hb'⟩
              have hR' := Lib.hid (hR.out.keep hb')
              have hB' := Below.next hB hb'
              clear hb' hR hB c0 c1
              go_wp2_with fail
              exact ⟨⟨j + 1, by omega, by go_num, hR', hB'⟩, by simp [intOf]; omega⟩
            · have hll := (HI.out.2 rfl).2.2 j (by rw [← HX.out]; exact hlt) hb
              go_wp2_with fail
              refine (refBeginsW _ _ _ (by omega) hz).mono ?_
              rw [hb]
              rintro e w' ⟨rfl, hb'⟩
              have hR' := Lib.hid (hR.out.keep hb')
              have hB' := Below.next hB hb'
              have c2 := (hb'.cell (p := ⟨g, off + at', none⟩) (World.block_lt_of_cell? _ _ c1)).trans c1
              clear hb' hR hB c0 c1
              have q1 : ¬ (sat xs at').size < (sat xs j).size := by omega
              by_cases q2 : (sat xs j).size = (sat xs at').size
              · have q3 : ¬ j < at' := by omega
                have q4 : (((sat xs j).size : Int) == ((sat xs at').size : Int)) = true := by rw [q2]; simp
                clear q2 hll
                go_wp2_with fail
                exact ⟨⟨j + 1, by omega, by go_num, hR', hB'⟩, by simp [intOf]; omega⟩
              · have q4 : (((sat xs j).size : Int) == ((sat xs at').size : Int)) = false := by rw [beq_eq_false_iff_ne]; omega
                clear hll
                go_wp2_with fail
                exact ⟨⟨j + 1, by omega, by go_num, hR', hB'⟩, by simp [intOf]; omega⟩
          · have hza := HSS.out at'
            go_wp2_with fail
            refine (refBeginsW _ _ _ (by omega) hza).mono ?_
            rw [hab]
            rintro e w' ⟨rfl, hb'⟩
            have hB' := Below.next hB hb'
            go_wp2_with fail
            go_ret
            exact ⟨rfl, hB'⟩

/-! ### THE ROW's STEP -/
set_option maxRecDepth 100000 in
theorem lifted (os : Os) (started : os.Started) (H : Type) (enc : TypeId × Value → H) :
    ReturnsInHanded {} Try.checked os 10 .any (Rows.twigLongestSpec.pre6 enc Try.prog Try.f10 Rows.twigLongestRow.domain false) (Rows.twigLongestSpec.post enc Try.prog Try.f10 false true false false) := by
  refine returnsInHanded_of_change (C := Try.checked) own started (by kernel_rfl) Try.func10
    (ChangeSpec.witness6 (enc := enc) (C := Try.checked) false ⟨#[], #[.slice none 0 0, .string ByteArray.empty], []⟩ 8 (by kernel_rfl) (by kernel_rfl) (by kernel_rfl) (by kernel_rfl)) ?_
  intro W base args ds gs before hval0 hW hcnd _
  have hval : ∀ (j : Nat) t v, Try.f10.params[j]? = some t → args[j]? = some v → Value.okWide Try.prog W .any base t v := hval0
  have hW' := hW
  obtain ⟨p, q, hA0, hV, rfl, hfz, hnd⟩ := hW
  have hA : DataW.TrodAll enc Try.prog W 0 (fun _ => true) true Try.f10.params.toList args.toList ds p := hA0
  rw [Try.params10] at hA hval
  obtain ⟨v0, vs0, d0, ds0, p0, q0, hargs, rfl, rfl, h0, r0⟩ := trodAll_cons hA
  obtain ⟨v1, vs1, d1, ds1, p1, q1, rfl, rfl, rfl, h1, r1⟩ := trodAll_cons r0
  obtain ⟨rfl, rfl, rfl⟩ := trodAll_nil r1
  obtain rfl : args = #[v0, v1] := by cases args; simp_all
  obtain ⟨rfl, rfl⟩ := trodVars_none hV
  obtain ⟨a0, len0, cap0, rfl⟩ := okWide_slice Try.underlying76 (hval 0 76 v0 rfl rfl)
  have k0 := h0
  have lt0 : ∀ x ∈ p0, x.block < W.heap.size := by obtain ⟨m, hm⟩ := k0; exact DataW.trod_lt m _ _ _ hm
  obtain ⟨z0, w0⟩ : ∃ zs, ArgS W a0 len0 cap0 zs := by
    obtain ⟨fuel, hf⟩ := h0
    rcases open_strings Try.underlying76 Try.underlying9 (by kernel_rfl) hf with ⟨hcs, _⟩ | ⟨x, l, c, zs, hcs, _, hl, hm, hz, _, hcell, hwz⟩
    · simp [Value.cells] at hcs
      obtain ⟨rfl, rfl, rfl⟩ := hcs
      exact ⟨[], .inl ⟨rfl, rfl, rfl, rfl⟩⟩
    · simp [Value.cells] at hcs
      obtain ⟨rfl, rfl, rfl⟩ := hcs
      have hz' : len0 ≤ zs.length := by rw [hz]; split <;> omega
      refine ⟨zs.take len0, .inr ⟨_, rfl, by rw [List.length_take]; omega, hl, hm, fun j u hj => ?_, fun s hs => hwz s (List.mem_of_mem_take hs)⟩⟩
      rw [List.getElem?_take] at hj
      split at hj
      · obtain ⟨hjl, hjx⟩ := List.getElem?_eq_some_iff.1 hj
        rw [hcell j hjl, List.getD_eq_getElem?_getD, hj]; rfl
      · cases hj
  have k1 := h1
  have lt1 : ∀ x ∈ p1, x.block < W.heap.size := by obtain ⟨m, hm⟩ := k1; exact DataW.trod_lt m _ _ _ hm
  obtain ⟨a1, rfl, rfl, rfl, w1⟩ := open_string Try.underlying9 (hval 1 9 v1 rfl rfl) h1
  clear hA0 hval0
  refine (walk a0 len0 cap0 z0 a1 W w0 w1).mono fun e W' ⟨he, bel⟩ => ?_
  subst he
  exact ⟨_, rfl, _, _, _, [], _, [], hW', trodAll_mk1 (shut_bool Try.underlying4 _), (trodAll_cons_mk (Below.trod laidOut (by kernel_rfl) (of_decide_eq_true (by kernel_rfl)) k0 bel lt0) (trodAll_cons_mk (Below.trod laidOut (by kernel_rfl) (of_decide_eq_true (by kernel_rfl)) k1 bel lt1) trodAll_mk0)), rfl, bel.frame _, fun h => by cases h⟩

theorem over : Rows.twigLongestRow.holds Try.pinned (OpenSpec.ofChange Rows.twigLongestSpec) :=
  OpenClaim.holds_of_wide 10 Try.f10 rfl rfl rfl rfl rfl rfl rfl ⟨rfl, rfl, rfl, rfl, rfl⟩ rfl rfl rfl rfl rfl (by kernel_rfl) Try.func10 (by kernel_rfl)
    (of_decide_eq_true (by kernel_rfl)) (by unfold Func.isWrapper; first | (rw [if_pos (by decide +kernel)]; kernel_rfl) | (rw [if_neg (by decide +kernel)]; exact ⟨rfl, rfl⟩))
    (fun os started H enc _ => lifted os started H enc)

theorem proved : Rows.TwigLongestSaid := over
#print axioms proved
end Go.Proofs.Ytgldgdpgbfejmaa.twigLongest
