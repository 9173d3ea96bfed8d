/- ChampOwns: for every hasher and every three scripts of changes the law returns true: what is changed in place by a live token is its own alone; each version that was made without it stays. Conditions: none beyond the given statement. -/
import Derived.Test.YtfmbikmpobieoaaGreatRows
import Derived.WalkKit
import Derived.ProofKit
import Derived.OpenShut
import Derived.ShutString
import Derived.ChangeOld
import Derived.Below
import Derived.BigQuiet
import Derived.Deep.RegionHeld3
import Derived.Carry
import Derived.Lib.SmallJoins
import Derived.Test.YtfmbikmpobieoaaGreatMOc
namespace Go.Proofs.YtfmbikmpobieoaaGreat.champOwns
open Go.ChangeShapes Go.WideShapes Go.ChangeAt Go.RowKit Go.Joins Go.Lib
open Go.ChangeMaps (open_string shut_string)
set_option linter.unusedVariables false
set_option linter.unusedSimpArgs false
set_option maxRecDepth 100000
attribute [local irreducible] cnt

theorem own : ownKnob Tryz.prog.godebug = none := by kernel_rfl
theorem laidOut : laidOutB Tryz.prog = true := by kernel_rfl

set_option maxHeartbeats 16000000 in
theorem walk (k0 k1 m : Int) (a1 : Option Addr) (len1 cap1 : Nat) (a2 : Option Addr) (len2 cap2 : Nat) (a3 : Option Addr) (len3 cap3 : Nat) (w : World) (h0 : U64 k0) (h1 : U64 k1) (hA1 : ArgA w a1 len1 cap1) (hA2 : ArgA w a2 len2 cap2) (hA3 : ArgA w a3 len3 cap3) :
    Calls Tryz.prog 5 #[.agg #[.int .u64 k0, .int .u64 k1, .int .u64 m], .slice a1 len1 cap1, .slice a2 len2 cap2, .slice a3 len3 cap3] w fun e w' => e = .returned (.bool true) ∧ Below w.heap.size w w' := by
  have hB0 := (Below.refl _ w).alloc (Nat.le_refl _) (.cells #[.int .u64 k0, .int .u64 k1, .int .u64 m] 26)
  have b1 := Blk.new w 26 #[.int .u64 k0, .int .u64 k1, .int .u64 m]
  have HF := Lib.hid (fun wr N4 N5 N6 v5 v6 all ts us hO hN5 hN6 hL P c T b2 hPo hTk hbs A2 c2 ps2 hb hvm hr2 hn2 hz2 b1 A1 c1 ps1 hb1 hvm1 hr1 hn1 hz1 => own9_any (fun e w' => e = .returned (.bool true) ∧ Below w.heap.size w w') k0 k1 m w wr h0 h1 N4 N5 N6 v5 v6 all ts us 100 21 hO hN5 hN6 (by omega) hL a2 len2 cap2 hA2 P c T b2 hPo hTk hbs A2 c2 ps2 hb hvm hr2 hn2 hz2 a3 len3 cap3 hA3 b1 A1 c1 ps1 hb1 hvm1 hr1 hn1 hz1 (fun w' h => ⟨rfl, h⟩))
  have HA1 := Lib.hid hA1
  have HA2 := Lib.hid hA2
  clear hA1 hA2 hA3
  go_enter Tryz.func5, Tryz.ntmps5
  go_upto_region 1 with (fail)
  generalize w.alloc (.cells #[.int .u64 k0, .int .u64 k1, .int .u64 m] 26) = W at *
  obtain ⟨N4, hN4⟩ : ∃ N4, N4 = w.heap.size := ⟨_, rfl⟩
  rw [← hN4] at b1 ⊢
  clear hN4
  go_wp2_with fail
  refine (awake_any _).mono ?_
  rintro e w1 ⟨rfl, hB1⟩
  have hH := b1.below hB1
  have hB := hB0.trans (hB1.mono hB0.size)
  clear b1 hB1 hB0
  go_wp2_with fail
  refine (new_is 1 _ (by omega) (by omega)).mono ?_
  rintro e w2 ⟨P, c, rfl, hPo, hbP, hbc, hB2⟩
  have hH := hH.below hB2
  have hbP := Nat.le_trans hB.size hbP
  have hbc := Nat.le_trans hB.size hbc
  have hB := hB.trans (hB2.mono hB.size)
  have hu : upto 1 = [1] := rfl
  rw [hu] at hPo
  have kt := take_is P c 1 0 1 [] w2 hPo (by omega)
  have hbT0 := hB.size
  unfold at0 at kt ⊢
  clear hB2 hu
  go_wp2_with fail
  refine kt.mono ?_
  rintro e w3 ⟨T, rfl, hPo3, hTk, hbT, hK3⟩
  have hH := hH.keep hK3 (fun hm => by
    obtain ⟨hbp, s, r, hc⟩ := hPo
    unfold Blk at hbp hH
    simp only [List.mem_cons, List.not_mem_nil, or_false] at hm
    rcases hm with rfl | rfl
    · rw [hbp] at hH; simp at hH
    · rw [hc] at hH; simp at hH)
  have hB := hB.trans (hK3.below hB.size (by simp; exact ⟨hbP, hbc⟩))
  have hbT := Nat.le_trans hbT0 hbT
  have hPo := hPo3
  clear kt hK3 hbT0 hPo3
  unfold at0
  go_wp2_with fail
  refine (empty_X (base := w.heap.size) (X := fun x => x = T) k0 k1 m hB.size (fun x hx => by subst hx; exact hTk.lt)).mono ?_
  rintro e w4 ⟨b, rfl, hT, hB4⟩
  have hH := hH.below hB4
  have hPo := hPo.kt (KT.ofBelow hB4)
  have hTk : Tok w4 T P 1 true := Blk.kt hTk (KT.ofBelow hB4) (by decide)
  have hB := hB.trans (hB4.mono hB.size)
  clear hB4
  go_upto_region 6 with (fail)
  have hPo : Pool w4 P c 1 1 [] := by simpa using hPo
  obtain ⟨M, hM⟩ : ∃ M, M = w4.heap.size := ⟨_, rfl⟩
  have hBa := (Below.refl _ w4).alloc (Nat.le_refl _) (.cells #[.pointer (some ⟨b, 0, none⟩)] 30)
  have hn5 := Blk.new w4 30 #[.pointer (some ⟨b, 0, none⟩)]
  have ea : (w4.alloc (.cells #[.pointer (some ⟨b, 0, none⟩)] 30)).heap.size = M + 1 := by simp [hM]
  rw [← hM] at hn5 ⊢
  generalize w4.alloc (.cells #[.pointer (some ⟨b, 0, none⟩)] 30) = Wa at *
  have hBb := (Below.refl _ Wa).alloc (Nat.le_refl _) (.cells #[.slice none 0 0] 32)
  have hn6 := Blk.new Wa 32 #[.slice none 0 0]
  have eb : (Wa.alloc (.cells #[.slice none 0 0] 32)).heap.size = M + 1 + 1 := by simp [ea]
  rw [ea] at hn6
  generalize Wa.alloc (.cells #[.slice none 0 0] 32) = Wb at *
  have hBc := (Below.refl _ Wb).alloc (Nat.le_refl _) (.cells #[.slice (some ⟨M, 0, none⟩) 1 1] 49)
  have hb5 := Blk.new Wb 49 #[.slice (some ⟨M, 0, none⟩) 1 1]
  have ec : (Wb.alloc (.cells #[.slice (some ⟨M, 0, none⟩) 1 1] 49)).heap.size = M + 1 + 1 + 1 := by simp [eb]
  rw [eb] at hb5
  generalize Wb.alloc (.cells #[.slice (some ⟨M, 0, none⟩) 1 1] 49) = Wc at *
  have hBd := (Below.refl _ Wc).alloc (Nat.le_refl _) (.cells #[.slice (some ⟨M + 1, 0, none⟩) 1 1] 50)
  have hb6 := Blk.new Wc 50 #[.slice (some ⟨M + 1, 0, none⟩) 1 1]
  rw [ec] at hb6
  generalize Wc.alloc (.cells #[.slice (some ⟨M + 1, 0, none⟩) 1 1] 50) = W5 at *
  have hB1 := hBa.trans (hBb.mono hBa.size)
  have hB2 := hB1.trans (hBc.mono hB1.size)
  have hB3 := hB2.trans (hBd.mono hB2.size)
  have hn5 := ((hn5.below hBb).below hBc).below hBd
  have hn6 := (hn6.below hBc).below hBd
  have hb5 := hb5.below hBd
  have hMb : w.heap.size ≤ M := by rw [hM]; exact hB.size
  have hT5 : TX (fun x => atBlk (.slice (some ⟨M, 0, none⟩) 1 1) x ∨ x = T) k0 k1 m w.heap.size W5 b [] := (hT.set (X' := fun x => atBlk (.slice (some ⟨M, 0, none⟩) 1 1) x ∨ x = T) fun x hx => by
    rcases hx with hx | hx
    · refine .inr (.inl ?_)
      unfold atBlk at hx
      simp [Value.ownBlock] at hx
      omega
    · exact .inl hx).below hB3
  have hH := hH.below hB3
  have hPo := hPo.kt (KT.ofBelow hB3)
  have hTk : Tok W5 T P 1 true := Blk.kt hTk (KT.ofBelow hB3) (by decide)
  have hB := hB.trans (hB3.mono hB.size)
  have hV : VX (fun x => x = T) k0 k1 m w.heap.size W5 (.slice (some ⟨M, 0, none⟩) 1 1) (.slice (some ⟨M + 1, 0, none⟩) 1 1) [b] [.slice none 0 0] [(b, [])] [(.slice none 0 0, [])] :=
    ⟨⟨rfl, .inr ⟨_, 1, _, rfl, hMb, hn5, Nat.le_refl _, by unfold maxLen; omega, rfl, rfl⟩⟩, ⟨rfl, .inr ⟨_, 1, _, rfl, Nat.le_succ_of_le hMb, hn6, Nat.le_refl _, by unfold maxLen; omega, rfl, rfl⟩⟩,
     fun e he => by simp at he; subst he; exact hT5, fun e he => by simp at he; subst he; exact OwnR.nil _ _, hB.size, fun x hx => by subst hx; exact ⟨_, _, _, hTk⟩⟩
  obtain ⟨N5, hN5⟩ : ∃ N5, N5 = M + 1 + 1 := ⟨_, rfl⟩
  have hN6b : w.heap.size ≤ M + 1 + 1 + 1 := by omega
  have hN5b : w.heap.size ≤ N5 := by omega
  rw [← hN5] at hb5 hb6 hN6b ⊢
  generalize N5 + 1 = N6 at *
  have hOS : OS k0 k1 m w N4 N5 N6 (fun x => x = T) W5 (.slice (some ⟨M, 0, none⟩) 1 1) (.slice (some ⟨M + 1, 0, none⟩) 1 1) [⟨b, .slice none 0 0, []⟩] [(b, [])] [(.slice none 0 0, [])] 100 1 :=
    ⟨hB, ⟨hV, hb5, hb6⟩, hH, fun e he => by rw [List.mem_singleton] at he; subst he; exact ⟨by simp, by simp⟩, fun e he => by rw [List.mem_singleton] at he; subst he; exact ⟨rises_nil, by simp, by simp⟩, by simp⟩
  have kg := growK_os h0 h1 a1 len1 cap1 HA1.out none none rfl b (.slice none 0 0) [] 0 hOS hN5b hN6b (TV.nil _) (by simp) (by simp) rises_nil (by simp) (by omega) (by omega) (by simp) (by omega)
  have c5 : W5.cell? ⟨N5, 0, none⟩ = some (.slice (some ⟨M, 0, none⟩) 1 1) := hb5.cell 0
  have cr : W5.cell? ⟨M, 0, none⟩ = some (.pointer (some ⟨b, 0, none⟩)) := hn5.cell 0
  generalize M + 1 = M1 at *
  clear hM hBa hBb hBc hBd hb6 hB1 hB2 hB3 hn6 hT5 hT hV hN5 hOS ea eb ec hMb hH hB hb5 hn5
  go_wp2_with fail
  refine kg.mono ?_
  rintro e w5 ⟨b1, v1, rfl, vs, v5, v6, ps1, hO, hb1, hv1, hr1, hn1, hz1, hK⟩
  have hPo := hPo.kt hK
  have hTk : Tok w5 T P 1 true := Blk.kt hTk hK (by decide)
  obtain ⟨A1, c1, ev1, -⟩ := (hO.vb.x.eL _ hv1).rd
  simp only at ev1
  subst ev1
  generalize [(⟨b, .slice none 0 0, []⟩ : Ver)] ++ vs = all at *
  generalize [(b, ([] : List Pr))] ++ vs.map (fun e => (e.b, e.ps)) = ts at *
  generalize [((.slice none 0 0 : Value), ([] : List Pr))] ++ vs.map (fun e => (e.v, e.ps)) = us at *
  have hxl := hO.vb.x.xlt
  have hno : ¬ atBlk v5 T := fun h => by
    obtain ⟨cur, hc⟩ := own_cells hO.vb.x.r5 T h
    have h2 := hTk
    unfold Tok at h2
    unfold Blk at h2
    rw [hc] at h2; simp at h2
  have kL := growL_any k0 k1 m w h0 h1 a2 len2 cap2 HA2.out T N4 N5 N6 b1 (.slice A1 ps1.length c1) ps1 20 w5 hO.hB hO.hH (TV.tok hTk) (fun x => w5.heap.size ≤ x ∨ atBlk v5 x) (fun x hx => .inl hx) (fun h => by
    rcases h with h | h
    · have := hTk.lt; omega
    · exact hno h) (Trie.alive (T := T) (X0 := fun x => atBlk v5 x ∨ x = T) (.inr rfl) (fun x hx => by
      rcases hx with hx | hx
      · exact .inr hx
      · exact .inl (.inl hx)) _ _ _ _ _ (hO.vb.x.eT _ hb1)) (hO.vb.x.eL _ hv1) hr1 (by simpa using hn1) (by omega) hz1
  clear kg c5 cr hK hno
  go_wp2_with fail
  refine kL.mono ?_
  rintro e w6 ⟨b2, v2, ps2, F2, rfl, hT2, hF2, hO2, hr2, hn2, hz2, hB6⟩
  have hPo := hPo.kt (KT.ofBelow hB6)
  have hTk : Tok w6 T P 1 true := Blk.kt hTk (KT.ofBelow hB6) (by decide)
  obtain ⟨A2, c2, ev2, -⟩ := hO2.rd
  subst ev2
  have hO := hO.below hB6
  have hTl : TX (fun x => atBlk v5 x ∨ False) k0 k1 m w.heap.size w6 b2 ps2 := Trie.leave (fun x hx => by
    rcases hx with hx | hx
    · exact .inr hx
    · exact hx.elim) _ _ _ _ _ hT2 (fun x hx h => by
    rcases h with h | h
    · have := hF2 x hx
      have := hxl x (.inl h)
      omega
    · exact h)
  have hOS : OS k0 k1 m w N4 N5 N6 (fun _ => False) w6 v5 v6 all (ts ++ [(b2, ps2)]) (us ++ [(.slice A2 ps2.length c2, ps2)]) 100 21 :=
    ⟨hO.hB, ⟨((hO.vb.x.weak (Z' := fun _ => False) (fun _ h => h.elim)).addT hTl).addL hO2, hO.vb.b5, hO.vb.b6⟩, hO.hH, fun e he => ⟨List.mem_append.2 (.inl (hO.cov e he).1), List.mem_append.2 (.inl (hO.cov e he).2)⟩, hO.vp, hO.len⟩
  have HFF := Lib.hid (HF.out w6 N4 N5 N6 v5 v6 all _ _ hOS hN5b hN6b (by omega) P c T b2 hPo hTk ⟨hbP, hbc, hbT⟩ A2 c2 ps2 (by simp) (by simp) hr2 (by omega) hz2 b1 A1 c1 ps1 (List.mem_append.2 (.inl hb1)) (List.mem_append.2 (.inl hv1)) hr1 (by omega) hz1)
  clear HF hOS hO hTl hPo hTk kL hT2 hF2 hO2 hr2 hz2 hxl hr1 hz1 hb1 hv1 hB6 HA1 HA2
  dsimp only
  repeat (first | exact HFF.out _ _ _ _ _ _ _ _ _ _ _ _ _ _ _ _ _ _ _ _ _ _ _ _ _ _ _ _ _ _ _ _ _ _ _ _ _ _ _ _ _ _ _ _ _ _ _ _ _ _ _ _ _ _ _ _ _ _ _ _ _ _ _ _ _ _ _ _ _ _ _ _ _ _ _ _ _ _ _ _ _ _ _ _ _ _ _ _ _ _ _ | go_step)

/-! ### THE ROW's STEP -/
set_option maxRecDepth 100000 in
theorem lifted (os : Os) (started : os.Started) (H : Type) (enc : TypeId × Value → H) :
    ReturnsInHanded {} Tryz.checked os 5 .any (Rows.champOwnsSpec.pre6 enc Tryz.prog Tryz.f5 Rows.champOwnsRow.domain false) (Rows.champOwnsSpec.post enc Tryz.prog Tryz.f5 false true false false) := by
  refine returnsInHanded_of_change (C := Tryz.checked) own started (by kernel_rfl) Tryz.func5
    (ChangeSpec.witness6 (enc := enc) (C := Tryz.checked) false ⟨#[], #[.agg #[.int .u64 0, .int .u64 0, .int .u64 0], .slice none 0 0, .slice none 0 0, .slice none 0 0], []⟩ 8 (by kernel_rfl) (by kernel_rfl) (by kernel_rfl) (by kernel_rfl)) ?_
  intro W base args ds gs before hval0 hW hcnd _
  have hval : ∀ (j : Nat) t v, Tryz.f5.params[j]? = some t → args[j]? = some v → Value.okWide Tryz.prog W .any base t v := hval0
  have hW' := hW
  obtain ⟨p, q, hA0, hV, rfl, hfz, hnd⟩ := hW
  have hA : DataW.TrodAll enc Tryz.prog W 0 (fun _ => true) true Tryz.f5.params.toList args.toList ds p := hA0
  rw [Tryz.params5] at hA hval
  obtain ⟨v0, vs0, d0, ds0, p0, q0, hargs, rfl, rfl, h0, r0⟩ := trodAll_cons hA
  obtain ⟨v1, vs1, d1, ds1, p1, q1, rfl, rfl, rfl, h1, r1⟩ := trodAll_cons r0
  obtain ⟨v2, vs2, d2, ds2, p2, q2, rfl, rfl, rfl, h2, r2⟩ := trodAll_cons r1
  obtain ⟨v3, vs3, d3, ds3, p3, q3, rfl, rfl, rfl, h3, r3⟩ := trodAll_cons r2
  obtain ⟨rfl, rfl, rfl⟩ := trodAll_nil r3
  obtain rfl : args = #[v0, v1, v2, v3] := by cases args; simp_all
  obtain ⟨rfl, rfl⟩ := trodVars_none hV
  have k0 := h0
  have lt0 : ∀ x ∈ p0, x.block < W.heap.size := by obtain ⟨m, hm⟩ := k0; exact DataW.trod_lt m _ _ _ hm
  obtain ⟨x0, y0, m0, rfl, u0, t0, r0_⟩ := open_hasher (hval 0 26 v0 rfl rfl) h0
  obtain ⟨a1, len1, cap1, rfl⟩ := okWide_slice Tryz.underlying27 (hval 1 27 v1 rfl rfl)
  have k1 := h1
  have lt1 : ∀ x ∈ p1, x.block < W.heap.size := by obtain ⟨m, hm⟩ := k1; exact DataW.trod_lt m _ _ _ hm
  have w1 := open_acts h1
  obtain ⟨a2, len2, cap2, rfl⟩ := okWide_slice Tryz.underlying27 (hval 2 27 v2 rfl rfl)
  have k2 := h2
  have lt2 : ∀ x ∈ p2, x.block < W.heap.size := by obtain ⟨m, hm⟩ := k2; exact DataW.trod_lt m _ _ _ hm
  have w2 := open_acts h2
  obtain ⟨a3, len3, cap3, rfl⟩ := okWide_slice Tryz.underlying27 (hval 3 27 v3 rfl rfl)
  have k3 := h3
  have lt3 : ∀ x ∈ p3, x.block < W.heap.size := by obtain ⟨m, hm⟩ := k3; exact DataW.trod_lt m _ _ _ hm
  have w3 := open_acts h3
  clear hA0 hval0
  refine (walk x0 y0 m0 a1 len1 cap1 a2 len2 cap2 a3 len3 cap3 W u0 t0 w1 w2 w3).mono fun e W' ⟨he, bel⟩ => ?_
  subst he
  exact ⟨_, rfl, _, _, _, [], _, [], hW', trodAll_mk1 (shut_bool Tryz.underlying4 _), (trodAll_cons_mk (Below.trod laidOut (by kernel_rfl) (of_decide_eq_true (by kernel_rfl)) k0 bel lt0) (trodAll_cons_mk (Below.trod laidOut (by kernel_rfl) (of_decide_eq_true (by kernel_rfl)) k1 bel lt1) (trodAll_cons_mk (Below.trod laidOut (by kernel_rfl) (of_decide_eq_true (by kernel_rfl)) k2 bel lt2) (trodAll_cons_mk (Below.trod laidOut (by kernel_rfl) (of_decide_eq_true (by kernel_rfl)) k3 bel lt3) trodAll_mk0)))), rfl, bel.frame _, fun h => by cases h⟩

theorem over : Rows.champOwnsRow.holds Tryz.pinned (OpenSpec.ofChange Rows.champOwnsSpec) :=
  OpenClaim.holds_of_wide 5 Tryz.f5 rfl rfl rfl rfl rfl rfl rfl ⟨rfl, rfl, rfl, rfl, rfl⟩ rfl rfl rfl rfl rfl (by kernel_rfl) Tryz.func5 (by kernel_rfl)
    (of_decide_eq_true (by kernel_rfl)) (by unfold Func.isWrapper; first | (rw [if_pos (by decide +kernel)]; kernel_rfl) | (rw [if_neg (by decide +kernel)]; exact ⟨rfl, rfl⟩))
    (fun os started H enc _ => lifted os started H enc)

theorem proved : Rows.ChampOwnsSaid := over
#print axioms proved
end Go.Proofs.YtfmbikmpobieoaaGreat.champOwns
