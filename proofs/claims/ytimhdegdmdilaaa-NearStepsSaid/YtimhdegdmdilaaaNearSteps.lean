/- NearSteps: for every list of pairs the law returns true: from the smallest key Above goes over all keys of a tree in their order, from the largest one Below goes back. Conditions: none beyond the given statement. -/
import Derived.Test.YtimhdegdmdilaaaRows
import Derived.WalkKit
import Derived.ProofKit
import Derived.OpenShut
import Derived.ShutString
import Derived.ChangeOld
import Derived.Below
import Derived.BigQuiet
import Derived.Deep.RegionHeld3
import Derived.Carry
import Derived.Lib.SmallJoins
import Derived.Test.YtimhdegdmdilaaaHav
import Derived.Test.YtimhdegdmdilaaaHap
namespace Go.Proofs.Ytimhdegdmdilaaa.nearSteps
open Go.ChangeShapes Go.WideShapes Go.ChangeAt Go.RowKit Go.Joins Go.Lib
open Go.ChangeMaps (open_string shut_string)
set_option linter.unusedVariables false
set_option linter.unusedSimpArgs false
set_option linter.unnecessarySimpa false
set_option maxRecDepth 100000

theorem own : ownKnob Try.prog.godebug = none := by kernel_rfl
theorem laidOut : laidOutB Try.prog = true := by kernel_rfl

set_option maxHeartbeats 8000000 in
theorem walk (a1 : Option Addr) (len1 cap1 : Nat) (ps1 : List Pr) (w : World) (hp1 : ArgP w a1 len1 cap1 ps1) :
    Calls Try.prog 5 #[.slice a1 len1 cap1] w fun e w' => e = .returned (.bool true) ∧ Below w.heap.size w w' := by
  have hl1 := hp1.len_leR
  have HA1 := Lib.hid hp1
  clear hp1
  go_enter Try.func5, Try.ntmps5
  go_wp2_with fail
  refine (awake12_any _).mono ?_
  rintro e w1 ⟨rfl, hB⟩
  have hp := HA1.out.below hB
  go_wp2_with fail
  refine (lawtree_any a1 len1 cap1 ps1 w1 hp hl1).mono ?_
  rintro e w2 ⟨b, A, c, X, rfl, -, hlX, hT, hO, hB2⟩
  have hO := hO.base hB.size
  have hB := hB.trans (hB2.mono hB.size)
  clear hB2 hp HA1
  have HR := Lib.hid hT.rises
  have HKS := Lib.hid hT.keys
  have km := min_list hT
  rw [entP_s, List.head?_eq_getElem?] at km
  unfold at0 at km ⊢
  have HF := Lib.hid (fun wr hB hT hO => st12_any (fun e w' => e = .returned (.bool true) ∧ Below w.heap.size w w') w wr b X A c hB hT hO hlX (fun w' h => ⟨rfl, h⟩))
  obtain ⟨NX, hNX⟩ : ∃ NX, NX = X.length := ⟨_, rfl⟩
  have HNX := Lib.hid hNX
  rw [← hNX] at hlX hO HF ⊢
  clear hNX
  go_wp2_with fail
  refine km.mono ?_
  rintro e w3 ⟨rfl, hB1⟩
  have hBl := (Below.refl _ w3).alloc (Nat.le_refl _) (.cells #[.string (eK X[0]?), .string (eV X[0]?)] 29)
  have bP := Blk.new w3 29 #[.string (eK X[0]?), .string (eV X[0]?)]
  have hT := (hT.below hB1).below hBl
  have hO := (hO.below' hB1).below' hBl
  have hN9 : w.heap.size ≤ w3.heap.size := Nat.le_trans hB.size hB1.size
  have hB := (hB.trans (hB1.mono hB.size)).trans (hBl.mono hN9)
  clear km hB1 hBl
  go_upto_region 5 with (fail)
  generalize w3.alloc (.cells #[.string (eK X[0]?), .string (eV X[0]?)] 29) = W2 at *
  generalize w3.heap.size = N9 at *
  go_wp2_with fail
  go_loopw [6, 26] (fun vh vi wr => ∃ j : Nat, j ≤ NX ∧ vi = .int .i64 j ∧ vh = .bool X[j]?.isSome ∧ Blk wr N9 29 #[.string (eK X[j]?), .string (eV X[j]?)] ∧ PW wr b X ∧ OwnR w.heap.size wr (.slice A NX c) X ∧ Below w.heap.size w wr) (fun vh vi wr => NX - (RowKit.intOf vi).toNat)
  case atStart => exact ⟨0, by omega, rfl, rfl, bP, hT, hO, hB⟩
  case round =>
    clear bP hT hO hB
    obtain ⟨j, hj, rfl, rfl, bP, hT, hO, hB⟩ := hrel
    by_cases hlt : j < NX
    · have hjX : j < X.length := by rw [← HNX.out]; exact hlt
      obtain ⟨A', c', e', hR⟩ := hO.rd
      simp only [Value.slice.injEq] at e'
      obtain ⟨rfl, -, rfl⟩ := e'
      obtain ⟨g, off, hA, y0, y1⟩ := hR.at j hjX
      have hq := pat_get hjX
      have hgt := first_gt HR.out hjX
      have hsz := HKS.out _ (List.mem_of_getElem? (pat_get hjX))
      have kb := fun wr (hT : PW wr b X) => above_list hT (pat X j).1 (by omega)
      rw [hgt] at kb
      rw [hq] at bP ⊢
      generalize pat X j = q at *
      subst hA
      have L1 : (j : Int) < (NX : Int) := by omega
      have L2 : IntKind.i64.wrap ((j : Int) + 1) = ((j + 1 : Nat) : Int) := by rw [IntWalk.i64_in _ (by omega)]; omega
      have p0 : wr.cell? ⟨N9, 0, none⟩ = some (.string q.1) := bP.cell 0
      have p1 : wr.cell? ⟨N9, 1, none⟩ = some (.string q.2) := bP.cell 1
      simp only [Option.isSome_some]
      clear hgt hq hR
      go_upto_region 8 with (fail)
      have hBl := (Below.refl _ wr).alloc (Nat.le_refl _) (.cells #[.string q.1, .string q.2] 33)
      have bX := Blk.new wr 33 #[.string q.1, .string q.2]
      have bP := bP.below hBl
      have hT := hT.below hBl
      have hO := hO.below' hBl
      have hB := hB.trans (hBl.mono hB.size)
      clear hBl p0 p1 y0 y1
      generalize wr.alloc (.cells #[.string q.1, .string q.2] 33) = W at *
      generalize wr.heap.size = N8 at *
      have p0 : W.cell? ⟨N9, 0, none⟩ = some (.string q.1) := bP.cell 0
      have p1 : W.cell? ⟨N9, 1, none⟩ = some (.string q.2) := bP.cell 1
      have q0 : W.cell? ⟨N8, 0, none⟩ = some (.string q.1) := bX.cell 0
      have q1 : W.cell? ⟨N8, 1, none⟩ = some (.string q.2) := bX.cell 1
      have kb := kb W hT
      obtain ⟨o, ho⟩ : ∃ o, o = X[j + 1]? := ⟨_, rfl⟩
      rw [← ho] at kb
      have HO := Lib.hid ho
      clear ho
      rw [entP_s] at kb
      unfold at0 at kb
      go_wp2_with fail
      refine kb.mono ?_
      rintro e W3 ⟨rfl, hB3⟩
      have bP := bP.below hB3
      have hT := hT.below hB3
      have hO := hO.below' hB3
      have hB := hB.trans (hB3.mono hB.size)
      clear kb hB3 p0 p1 q0 q1 bX
      have p0 := bP.cell 0
      have p1 := bP.cell 1
      have f0 := bP.frozen 0
      have f1 := bP.frozen 1
      have hk2 := Keep.two W3 N9 0 1 (.string (eK o)) (.string (eV o))
      have HT := Lib.hid (hT.apart29 bP hk2)
      have HRd := Lib.hid (hO.apart29 bP hk2)
      have HBP := Lib.hid (bP.set2 (.string (eK o)) (.string (eV o)))
      have HB := Lib.hid ((hB.setCell (p := ⟨N9, 0, none⟩) hN9 (.string (eK o))).setCell (p := ⟨N9, 1, none⟩) hN9 (.string (eV o)))
      clear hT hO hB bP hk2
      go_wp2_with fail
      exact ⟨⟨j + 1, by omega, by go_num, by rw [← HO.out], by rw [← HO.out]; exact HBP.out, HT.out, HRd.out, HB.out⟩, by simp [RowKit.intOf]; omega⟩
    · obtain rfl : j = NX := by omega
      have G : ¬ ((j : Int) < (j : Int)) := by omega
      have e0 : X[j]? = none := by rw [List.getElem?_eq_none (by rw [← HNX.out]; exact Nat.le_refl _)]
      rw [e0]
      simp only [Option.isSome_none]
      have HFF := Lib.hid (HF.out wr hB hT hO)
      clear HF hT hO hB bP e0
      repeat (first | exact HFF.out _ _ _ _ _ _ _ _ _ _ _ _ _ _ _ _ _ _ _ _ _ _ _ _ _ _ _ _ _ _ _ _ _ _ _ _ _ _ _ _ _ _ _ _ _ _ _ _ _ _ _ _ _ _ _ _ _ _ _ _ _ _ _ _ _ _ _ _ _ _ _ _ _ _ | go_step)

/-! ### THE ROW's STEP -/
set_option maxRecDepth 100000 in
theorem lifted (os : Os) (started : os.Started) (H : Type) (enc : TypeId × Value → H) :
    ReturnsInHanded {} Try.checked os 5 .any (Rows.nearStepsSpec.pre6 enc Try.prog Try.f5 Rows.nearStepsRow.domain false) (Rows.nearStepsSpec.post enc Try.prog Try.f5 false true false false) := by
  refine returnsInHanded_of_change (C := Try.checked) own started (by kernel_rfl) Try.func5
    (ChangeSpec.witness6 (enc := enc) (C := Try.checked) false ⟨#[], #[.slice none 0 0], []⟩ 8 (by kernel_rfl) (by kernel_rfl) (by kernel_rfl) (by kernel_rfl)) ?_
  intro W base args ds gs before hval0 hW hcnd _
  have hval : ∀ (j : Nat) t v, Try.f5.params[j]? = some t → args[j]? = some v → Value.okWide Try.prog W .any base t v := hval0
  have hW' := hW
  obtain ⟨p, q, hA0, hV, rfl, hfz, hnd⟩ := hW
  have hA : DataW.TrodAll enc Try.prog W 0 (fun _ => true) true Try.f5.params.toList args.toList ds p := hA0
  rw [Try.params5] at hA hval
  obtain ⟨v0, vs0, d0, ds0, p0, q0, hargs, rfl, rfl, h0, r0⟩ := trodAll_cons hA
  obtain ⟨rfl, rfl, rfl⟩ := trodAll_nil r0
  obtain rfl : args = #[v0] := by cases args; simp_all
  obtain ⟨rfl, rfl⟩ := trodVars_none hV
  obtain ⟨a0, len0, cap0, rfl⟩ := okWide_slice Try.underlying22 (hval 0 22 v0 rfl rfl)
  have k0 := h0
  have lt0 : ∀ x ∈ p0, x.block < W.heap.size := by obtain ⟨m, hm⟩ := k0; exact DataW.trod_lt m _ _ _ hm
  obtain ⟨z0, w0⟩ := open_pairs h0
  clear hA0 hval0
  refine (walk a0 len0 cap0 z0 W w0).mono fun e W' ⟨he, bel⟩ => ?_
  subst he
  exact ⟨_, rfl, _, _, _, [], _, [], hW', trodAll_mk1 (shut_bool Try.underlying4 _), (trodAll_cons_mk (Below.trod laidOut (by kernel_rfl) (of_decide_eq_true (by kernel_rfl)) k0 bel lt0) trodAll_mk0), rfl, bel.frame _, fun h => by cases h⟩

theorem over : Rows.nearStepsRow.holds Try.pinned (OpenSpec.ofChange Rows.nearStepsSpec) :=
  OpenClaim.holds_of_wide 5 Try.f5 rfl rfl rfl rfl rfl rfl rfl ⟨rfl, rfl, rfl, rfl, rfl⟩ rfl rfl rfl rfl rfl (by kernel_rfl) Try.func5 (by kernel_rfl)
    (of_decide_eq_true (by kernel_rfl)) (by unfold Func.isWrapper; first | (rw [if_pos (by decide +kernel)]; kernel_rfl) | (rw [if_neg (by decide +kernel)]; exact ⟨rfl, rfl⟩))
    (fun os started H enc _ => lifted os started H enc)

theorem proved : Rows.NearStepsSaid := over
#print axioms proved
end Go.Proofs.Ytimhdegdmdilaaa.nearSteps
