/- Put below the root: every trie. -/
import Derived.Test.YtchimfgbdfmegaaGreatGaj
namespace Go.Proofs.YtchimfgbdfmegaaGreat
open Go.RowKit Go.Lib
set_option linter.unusedVariables false
set_option maxRecDepth 100000
set_option linter.unusedSimpArgs false
set_option maxRecDepth 100000
attribute [local irreducible] cnt
section
variable {H : ByteArray → Nat} {X F G : Nat → Prop} {tk : Option Nat} {lv : Bool} {base : Nat} {w w' w1 w2 : World}
theorem ChPost.from {n l b : Nat} {ps : List Pr} (hB : Below w.heap.size w w1) (h : ChPost H X tk lv base n l ps F w1 b w2) : ChPost H X tk lv base n l ps F w b w2 := by
  obtain ⟨F', hT, hk, hv, hF⟩ := h
  exact ⟨F', hT, (KeepF.ofBelow hB).trans hk, hv, fun y hy => (hF y hy).imp_right (Nat.le_trans hB.size)⟩
theorem RetB.mono {R R' : Nat → World → Prop} {e : Ending} (h : RetB R e w) (hR : ∀ b, R b w → R' b w) : RetB R' e w := by
  obtain ⟨b, he, h⟩ := h
  exact ⟨b, he, hR b h⟩
theorem KeepF.bx {N1 N2 : Nat} {k0 k1 m hh : Int} {T : Option Addr} {pk pu : ByteArray} (hk : KeepF F w w') (h : Bx N1 N2 k0 k1 m hh T pk pu w) (h1 : ¬ F N1) (h2 : ¬ F N2) : Bx N1 N2 k0 k1 m hh T pk pu w' :=
  h.keep (hk.block _ (World.block_lt_of_cell? w _ h.1) h1) (hk.block _ (World.block_lt_of_cell? w _ h.2.2.2.2.2.1) h2)
/-- who is asked whether a node is his own -/
theorem owned_trie {b : Nat} {ow : Option Nat} {lo bk : Bool} {d nn : Nat} {pv kv : Value} {xs : List Pr} {ks : List Nat} {T : Option Addr} (hT : pt tk = .pointer T) (h : NdV base w b (pt ow) bk d nn pv kv xs ks) (hv : TV w tk lv) (ho : TV w ow lo) :
    Calls Tryz.prog 69 #[.pointer (some ⟨b, 0, none⟩), .pointer T] w fun e w' => e = .returned (.bool (ownB ow tk lv)) ∧ w = w' := by
  have := owned_any base b ow tk lo lv bk d nn pv kv xs ks w h hv ho
  rw [hT] at this
  exact this
theorem foot_mem (b : Nat) (pv kv : Value) : b ∈ foot b pv kv := by simp [foot]
end
set_option maxHeartbeats 4000000 in
theorem put_any (k0 k1 m : Int) (X : Nat → Prop) (tk : Option Nat) (lv : Bool) (base : Nat) (T : Option Addr) (pk pu : ByteArray) (hT : pt tk = .pointer T) (h0 : U64 k0) (h1 : U64 k1) (hs : pk.size ≤ 1000) :
    ∀ (n l b : Nat) (ps : List Pr) (F : Nat → Prop) (w : World) (ours : Bool), n + l = 13 → Cx X tk lv base w → Trie (hz k0 k1 m) X tk lv base w n l b ps F → RisesL ps → ps.length ≤ 700 → (∀ x ∈ ps, x.1.size ≤ 1000) → (ours = true ∨ ∀ x, ¬ F x) →
      Calls Tryz.prog 51 #[.agg #[.int .u64 k0, .int .u64 k1, .int .u64 m, .int .u64 (hz k0 k1 m pk : Nat), .pointer T], .pointer (some ⟨b, 0, none⟩), .int .i64 l, .bool ours, .agg #[.string pk, .string pu]] w (RetB (ChPost (hz k0 k1 m) X tk lv base n l (putK ps (pk, pu)) F w))
  | 0, l, b, ps, F, w, ours, hl, hcx, hTr, hr, hn, hz1, hours => by
    have hbl := Trie.blocks _ _ _ _ _ hTr
    obtain ⟨ow, pv, kv, lo, hB, hv, hN⟩ := hTr
    have hoo : ours = true ∨ ownB ow tk lv = false := by
      rcases hours with h | h
      · exact .inl h
      · refine .inr ?_
        cases ho : ownB ow tk lv with
        | false => rfl
        | true => rw [ho] at hN; exact absurd (((hN.yes rfl).2.1 b).2 (.inl (foot_mem _ _ _))) (h b)
    refine put_head _ k0 k1 m (hz k0 k1 m pk : Nat) b l (ownB ow tk lv) ours T pk pu w hoo (fun w' hw => owned_trie hT (hB.1.below hw) (hcx.tv.below hw) (hv.below hw)) ?_
    intro N1 N2 w1 x0 x4 x6 x7 x8 x10 x11 x12 x13 x14 x15 x16 x17 x18 x19 x20 x21 x22 x23 x24 x25 x26 x27 x28 x29 x30 x31 x32 x33 x34 x35 x36 x37 x38 x39 x40 x41 x42 x43 x44 x45 x46 x47 x48 x49 x50 x51 x52 x53 x54 x55 x56 x57 x58 x59 x60 x61 x62 x63 x64 x65 x66 x67 x68 x69 x70 x71 x72 x73 x74 x75 x76 x77 x78 x79 x80 x81 x82 x83 x84 x85 x86 x87 x88 x89 x90 x91 hB1 hN1 hN2 hbx
    refine put2_zero _ k0 k1 m _ tk b l N1 N2 _ T pk pu w1 hT (by omega) hbx ?_ ?_ _ _ _ _ _ _ _ _ _ _ _ _ _ _ _ _ _ _ _ _ _ _ _ _ _ _ _ _ _ _ _ _ _ _ _ _ _ _ _ _ _ _ _ _ _ _ _ _ _ _ _ _ _ _ _ _ _ _ _ _ _ _ _ _ _ _ _ _ _ _ _ _ _ _ _ _ _ _ _ _ _ _ _ _ _ _ _
    · cases ho : ownB ow tk lv with
      | true => exact .inl rfl
      | false =>
        refine .inr fun w' hw => ?_
        have hBw := hB1.trans (hw.mono hB1.size)
        have := owned_trie hT (hB.1.below hBw) (hcx.tv.below hBw) (hv.below hBw)
        rw [ho] at this; rw [hT]; exact this
    · intro w' hw
      have hBw := hB1.trans (hw.mono hB1.size)
      refine (put_in base b (pk, pu) ow tk lo lv 0 0 pv kv ps [] w' (hB.1.below hBw) (hcx.tv.below hBw) (hv.below hBw) hB.2 (by omega) (by simp) (Nat.le_trans hcx.base hBw.size)).mono ?_
      intro e w2 hp
      refine (Trie.changeB (H := hz k0 k1 m) (l := l) (hcx.below hBw) ⟨hB.1.below hBw, hB.2⟩ hN.w hp (put_rises _ hB.2)).mono fun b1 hc => ⟨hc.from hBw, ?_⟩
      obtain ⟨F', -, hk, -, -⟩ := hc
      exact hk.bx (hbx.below hw) (fun h => by have := (hbl _ h).2.1; omega) (fun h => by have := (hbl _ h).2.1; omega)
  | n + 1, l, b, ps, F, w, ours, hl, hcx, hTr, hr, hn, hz1, hours => by
    have IH := put_any k0 k1 m X tk lv base T pk pu hT h0 h1 hs n
    have hbl := Trie.blocks _ _ _ _ _ hTr
    obtain ⟨ow, pv, kv, lo, S, Fs, hI, hv, hN, hS⟩ := hTr
    have hI' := hI
    obtain ⟨d0, n0, hNd, -, -⟩ := hI'
    have hoo : ours = true ∨ ownB ow tk lv = false := by
      rcases hours with h | h
      · exact .inl h
      · refine .inr ?_
        cases ho : ownB ow tk lv with
        | false => rfl
        | true => rw [ho] at hN; exact absurd (((hN.yes rfl).2.1 b).2 (.inl (foot_mem _ _ _))) (h b)
    refine put_head _ k0 k1 m (hz k0 k1 m pk : Nat) b l (ownB ow tk lv) ours T pk pu w hoo (fun w' hw => owned_trie hT (hNd.below hw) (hcx.tv.below hw) (hv.below hw)) ?_
    intro N1 N2 w1 x0 x4 x6 x7 x8 x10 x11 x12 x13 x14 x15 x16 x17 x18 x19 x20 x21 x22 x23 x24 x25 x26 x27 x28 x29 x30 x31 x32 x33 x34 x35 x36 x37 x38 x39 x40 x41 x42 x43 x44 x45 x46 x47 x48 x49 x50 x51 x52 x53 x54 x55 x56 x57 x58 x59 x60 x61 x62 x63 x64 x65 x66 x67 x68 x69 x70 x71 x72 x73 x74 x75 x76 x77 x78 x79 x80 x81 x82 x83 x84 x85 x86 x87 x88 x89 x90 x91 hB1 hN1 hN2 hbx
    obtain ⟨C, hC⟩ : ∃ C, C = chk (hz k0 k1 m) l pk := ⟨_, rfl⟩
    have hC32 : C < 32 := by rw [hC]; exact chk_lt _ _ _
    have hat : ∀ w', Calls Tryz.prog 79 #[.int .u64 (hz k0 k1 m pk : Nat), .int .i64 l] w' fun e w'' => e = .returned (.int .i64 C) ∧ w' = w'' := fun w' => by rw [hC]; exact at_chk (hz k0 k1 m) l pk w' (by omega) (hz_int k0 k1 m pk).2
    have hkid : ∀ w', Below w1.heap.size w1 w' → Calls Tryz.prog 82 #[.pointer (some ⟨b, 0, none⟩), .int .i64 C] w' (KidPost (S.K C) w') := fun w' hw => Inn.kid base b C ow S pv kv w' (hI.below (hB1.trans (hw.mono hB1.size))) hC32
    have hpair : ∀ w', Below w1.heap.size w1 w' → Calls Tryz.prog 80 #[.pointer (some ⟨b, 0, none⟩), .int .i64 C] w' (PairPost (S.P C) w') := fun w' hw => Inn.pair base b C ow S pv kv w' (hI.below (hB1.trans (hw.mono hB1.size))) hC32
    have hsub1 : ∀ c, c ≠ C → sub (hz k0 k1 m) l c (putK ps (pk, pu)) = sub (hz k0 k1 m) l c ps := fun c hc => sub_put_other (by rw [hC] at hc; exact fun h => hc h.symm)
    have hsub2 : sub (hz k0 k1 m) l C (putK ps (pk, pu)) = putK (sub (hz k0 k1 m) l C ps) (pk, pu) := sub_put hr hC.symm
    have hownF : ∀ w', Below w1.heap.size w1 w' → ownB ow tk lv = false → Calls Tryz.prog 69 #[.pointer (some ⟨b, 0, none⟩), pt tk] w' fun e w'' => e = .returned (.bool false) ∧ w' = w'' := fun w' hw ho => by
      have hBw := hB1.trans (hw.mono hB1.size)
      have := owned_trie hT (hNd.below hBw) (hcx.tv.below hBw) (hv.below hBw)
      rw [ho] at this; rw [hT]; exact this
    have hown0 : ownB ow tk lv = true ∨ ∀ w', Below w1.heap.size w1 w' → Calls Tryz.prog 69 #[.pointer (some ⟨b, 0, none⟩), pt tk] w' fun e w'' => e = .returned (.bool false) ∧ w' = w'' := by
      cases ho : ownB ow tk lv with
      | true => exact .inl rfl
      | false => exact .inr fun w' hw => hownF w' hw ho
    have hsC := hS C hC32
    have hfC := hsC.facts
    have hcx1 := hcx.below hB1
    have hNF1 : ¬ F N1 := fun h => by have := (hbl _ h).2.1; omega
    have hNF2 : ¬ F N2 := fun h => by have := (hbl _ h).2.1; omega
    have hSw : ∀ w', Below w.heap.size w w' → ∀ c, c < 32 → SlotIs (fun k qs G => Trie (hz k0 k1 m) X tk lv base w' n (l + 1) k qs G) (S c) (sub (hz k0 k1 m) l c ps) (Fs c) := fun w' hw c hc => (hS c hc).keep (fun t l h => h.below hw) (KeepF.ofBelow (F := fun _ => False) hw) (fun _ h => h.elim) (fun _ h => h.elim)
    -- a pair is set
    have hset : sub (hz k0 k1 m) l C (putK ps (pk, pu)) = [(pk, pu)] → ∀ w', Below w1.heap.size w1 w' → Calls Tryz.prog 21 #[.pointer (some ⟨b, 0, none⟩), pt tk, .int .i64 C, .agg #[.string pk, .string pu]] w' (RetB fun b1 w2 => ChPost (hz k0 k1 m) X tk lv base (n + 1) l (putK ps (pk, pu)) F w b1 w2 ∧ Bx N1 N2 k0 k1 m (hz k0 k1 m pk : Nat) T pk pu w2) := fun hq w' hw => by
      have hBw := hB1.trans (hw.mono hB1.size)
      refine (Inn.setPair base b C ow tk lo lv S pv kv w' (hI.below hBw) (hcx.tv.below hBw) (hv.below hBw) hC32 (Nat.le_trans hcx.base hBw.size) (pk, pu)).mono ?_
      intro e w2 hp
      refine (Trie.change (H := hz k0 k1 m) (F := F) (G := fun _ => False) (n := n) (l := l) (ps := ps) (qs := [(pk, pu)]) (hcx.below hBw) (hI.below hBw) hN.w (hSw w' hBw) hC32 (KeepF.refl _ w') (x := .pr (pk, pu)) ⟨rfl, fun _ h => h⟩ (fun _ h => h.elim) hp hsub1 hq).mono fun b1 hc => ⟨hc.from hBw, ?_⟩
      obtain ⟨F', -, hk, -, -⟩ := hc
      exact hk.bx (hbx.below hw) hNF1 hNF2
    unfold SlotIs at hsC
    cases hsc : S C with
    | no =>
      rw [hsc] at hsC
      have eP : S.P C = none := by unfold Slots.P; rw [hsc]; rfl
      have eK : S.K C = none := by unfold Slots.K; rw [hsc]; rfl
      rw [eP] at hpair
      rw [eK] at hkid
      exact put2_none _ k0 k1 m (hz k0 k1 m pk) tk b l C N1 N2 _ T pk pu w1 hT (by omega) hbx hat hkid hpair hown0 (hset (by rw [hsub2, hsC.1]; rfl)) _ _ _ _ _ _ _ _ _ _ _ _ _ _ _ _ _ _ _ _ _ _ _ _ _ _ _ _ _ _ _ _ _ _ _ _ _ _ _ _ _ _ _ _ _ _ _ _ _ _ _ _ _ _ _ _ _ _ _ _ _ _ _ _ _ _ _ _ _ _ _ _ _ _ _ _ _ _ _ _ _ _ _ _ _ _ _
    | pr q =>
      rw [hsc] at hsC
      have eP : S.P C = some q := by unfold Slots.P; rw [hsc]; rfl
      have eK : S.K C = none := by unfold Slots.K; rw [hsc]; rfl
      rw [eP] at hpair
      rw [eK] at hkid
      obtain ⟨qk, qu⟩ := q
      by_cases hqk : qk = pk
      · subst hqk
        exact put2_same _ k0 k1 m (hz k0 k1 m qk) tk b l C N1 N2 _ T qk pu w1 hT (by omega) hbx hat hkid qu hpair hown0 (hset (by rw [hsub2, hsC.1]; exact put_one rfl)) _ _ _ _ _ _ _ _ _ _ _ _ _ _ _ _ _ _ _ _ _ _ _ _ _ _ _ _ _ _ _ _ _ _ _ _ _ _ _ _ _ _ _ _ _ _ _ _ _ _ _ _ _ _ _ _ _ _ _ _ _ _ _ _ _ _ _ _ _ _ _ _ _ _ _ _ _ _ _ _ _ _ _ _ _ _ _
      · exact put2_split _ k0 k1 m (hz k0 k1 m pk) tk b l C N1 N2 _ T pk pu w1 hT (by omega) hbx hat qk qu hqk
          (fun w0 kb w' => Fresh (hz k0 k1 m) X tk lv base n (l + 1) [(qk, qu)] w0 kb w')
          (fun kb' w3 => ∃ w0, Below w1.heap.size w1 w0 ∧ Fresh (hz k0 k1 m) X tk lv base n (l + 1) (putK [(qk, qu)] (pk, pu)) w0 kb' w3 ∧ Below w0.heap.size w0 w3) hkid hpair
          (fun w' hw => single_any k0 k1 m _ X tk lv base n (l + 1) T qk qu w' hT (by omega) (hcx1.below hw) h0 h1 (hz1 (qk, qu) (sub_mem.1 (by rw [hsC.1]; simp)).1))
          (fun w0 kb w' hw0 hF hB0 => by
            obtain ⟨F1, hT1, hv1, hF1⟩ := hF
            refine (IH (l + 1) kb [(qk, qu)] F1 w' true (by omega) ((hcx1.below hw0).keep hB0.size hv1) hT1 (List.pairwise_singleton _ _) (by simp) (fun x hx => by rw [List.mem_singleton.1 hx]; exact hz1 (qk, qu) (sub_mem.1 (by rw [hsC.1]; simp)).1) (.inl rfl)).mono fun e w3 h => h.mono fun b1 hc => ?_
            obtain ⟨F', hT3, hk, hv3, hF'⟩ := hc
            have hB3 : Below w0.heap.size w' w3 := hk.belowAt hF1 hB0.size
            have hB03 := hB0.trans hB3
            exact ⟨⟨w0, hw0, ⟨F', hT3, hv3, fun x hx => (hF' x hx).elim (hF1 x) (fun h => Nat.le_trans hB0.size h)⟩, hB03⟩, hB03⟩)
          (fun kb' w3 ⟨w0, hw0, _, hB03⟩ => hown0.imp_right fun g w'' hw'' => g w'' (hw0.trans ((hB03.trans (hw''.mono hB03.size)).mono hw0.size)))
          (fun kb' w3 ⟨w0, hw0, hFr, hB03⟩ w'' hw'' => by
            obtain ⟨F1, hT3, hv3, hF1⟩ := hFr
            have hBw0 := hB1.trans (hw0.mono hB1.size)
            have hB02 := hB03.trans (hw''.mono hB03.size)
            have hBw2 := hBw0.trans (hB02.mono hBw0.size)
            refine (Inn.setKid base b C ow tk lo lv S pv kv w'' (hI.below hBw2) (hv3.below hw'') (hv.below hBw2) hC32 (Nat.le_trans hcx.base hBw2.size) kb').mono ?_
            intro e w2 hp
            have hkeep : ∀ x, w1.heap.size ≤ x → x < w''.heap.size → w2.heap[x]? = w''.heap[x]? := by
              obtain ⟨b1, pv1, kv1, -, -, hcg⟩ := hp
              intro x hx hx2
              refine hcg.keep.block x hx2 fun hm => ?_
              split at hm
              · have := hI.footLt x hm
                have := hB1.size
                omega
              · simp at hm
            refine (Trie.change (H := hz k0 k1 m) (F := F) (G := F1) (n := n) (l := l) (ps := ps) (qs := putK [(qk, qu)] (pk, pu)) (hcx.below hBw0) (hI.below hBw0) hN.w (hSw w0 hBw0) hC32 (KeepF.ofBelow hB02) (x := .kd kb') ⟨by rw [put_two hqk]; exact Nat.le_refl _, Trie.below hT3 hw''⟩ (fun y hy => .inr (hF1 y hy)) hp hsub1 (by rw [hsub2, hsC.1])).mono fun b1 hc => ⟨hc.from hBw0, ?_, hkeep⟩
            obtain ⟨F2, -, hk2, -, -⟩ := hc
            exact hk2.bx (hbx.below hw0) hNF1 hNF2) _ _ _ _ _ _ _ _ _ _ _ _ _ _ _ _ _ _ _ _ _ _ _ _ _ _ _ _ _ _ _ _ _ _ _ _ _ _ _ _ _ _ _ _ _ _ _ _ _ _ _ _ _ _ _ _ _ _ _ _ _ _ _ _ _ _ _ _ _ _ _ _ _ _ _ _ _ _ _ _ _ _ _ _ _ _ _
    | kd kb =>
      rw [hsc] at hsC
      have eP : S.P C = none := by unfold Slots.P; rw [hsc]; rfl
      have eK : S.K C = some kb := by unfold Slots.K; rw [hsc]; rfl
      rw [eK] at hkid
      have hsr := sub_rises (H := hz k0 k1 m) (l := l) (c := C) hr
      have hsl : (sub (hz k0 k1 m) l C ps).length ≤ 700 := Nat.le_trans sub_len hn
      have hsz : ∀ x ∈ sub (hz k0 k1 m) l C ps, x.1.size ≤ 1000 := fun x hx => hz1 x (sub_mem.1 hx).1
      have hoC : ownB ow tk lv = true ∨ ∀ x, ¬ Fs C x := by
        cases ho : ownB ow tk lv with
        | true => exact .inl rfl
        | false => rw [ho] at hN; exact .inr fun x => (hN.no rfl).2.2 C x hC32
      have hNC1 : ¬ Fs C N1 := fun h => by have := (hfC.2.1 _ h).2.1; omega
      have hNC2 : ¬ Fs C N2 := fun h => by have := (hfC.2.1 _ h).2.1; omega
      have hfoot : ∀ x ∈ foot b pv kv, ¬ Fs C x := fun x hx hf => by
        cases ho : ownB ow tk lv with
        | true => rw [ho] at hN; exact (hN.yes rfl).2.2.1 C x hC32 hf hx
        | false => rw [ho] at hN; exact (hN.no rfl).2.2 C x hC32 hf
      exact put2_kid _ k0 k1 m (hz k0 k1 m pk) tk b l C N1 N2 _ T pk pu w1 hT (by omega) hbx hat kb
        (fun kb' w3 => ∃ w0, Below w1.heap.size w1 w0 ∧ ChPost (hz k0 k1 m) X tk lv base n (l + 1) (putK (sub (hz k0 k1 m) l C ps) (pk, pu)) (Fs C) w0 kb' w3) hkid
        (fun w' hw => by
          have hBw := hB1.trans (hw.mono hB1.size)
          have hk1 : Trie (hz k0 k1 m) X tk lv base w' n (l + 1) kb (sub (hz k0 k1 m) l C ps) (Fs C) := Trie.below hsC.2 hBw
          refine (IH (l + 1) kb _ (Fs C) w' (ownB ow tk lv) (by omega) (hcx.below hBw) hk1 hsr hsl hsz hoC).mono fun e w3 h => h.mono fun b1 hc => ⟨⟨w', hw, hc⟩, ?_⟩
          obtain ⟨F', -, hk, -, -⟩ := hc
          exact hk.bx (hbx.below hw) hNC1 hNC2)
        (fun kb' w3 ⟨w0, hw0, hc⟩ => by
          obtain ⟨F', -, hk, -, -⟩ := hc
          cases ho : ownB ow tk lv with
          | true => exact .inl rfl
          | false =>
            refine .inr fun w'' hw'' => ?_
            have hno : ∀ x, ¬ Fs C x := by rw [ho] at hN; exact fun x => (hN.no rfl).2.2 C x hC32
            have hB03 := hk.below hno
            exact hownF w'' (hw0.trans ((hB03.trans (hw''.mono hB03.size)).mono hw0.size)) ho)
        (fun kb' w3 ⟨w0, hw0, hc⟩ w'' hw'' => by
          obtain ⟨F', hT3, hk, hv3, hF'⟩ := hc
          have hBw0 := hB1.trans (hw0.mono hB1.size)
          have hkw : KeepF (Fs C) w0 w'' := hk.trans (KeepF.ofBelow hw'')
          have hf0 := (hSw w0 hBw0 C hC32).facts
          have hI2 : Inn base w'' b ow S pv kv := by
            obtain ⟨Y, hY, hYF⟩ := hkw.keep
            exact (hI.below hBw0).keep hY fun x hx hm => hfoot x hx (hYF x hm)
          refine (Inn.setKid base b C ow tk lo lv S pv kv w'' hI2 (hv3.below hw'') ((hv.below hBw0).keepF hkw fun x hx => (hf0.2.1 x hx).1) hC32 (Nat.le_trans hcx.base (Nat.le_trans hBw0.size hkw.size)) kb').mono ?_
          intro e w2 hp
          refine (Trie.change (H := hz k0 k1 m) (F := F) (G := F') (n := n) (l := l) (ps := ps) (hcx.below hBw0) (hI.below hBw0) hN.w (hSw w0 hBw0) hC32 hkw (x := .kd kb') ⟨put_len_two hsr hsC.1, Trie.below hT3 hw''⟩ hF' hp hsub1 hsub2).mono fun b1 hc => ⟨hc.from hBw0, ?_⟩
          obtain ⟨F2, -, hk2, -, -⟩ := hc
          exact hk2.bx (hbx.below hw0) hNF1 hNF2) _ _ _ _ _ _ _ _ _ _ _ _ _ _ _ _ _ _ _ _ _ _ _ _ _ _ _ _ _ _ _ _ _ _ _ _ _ _ _ _ _ _ _ _ _ _ _ _ _ _ _ _ _ _ _ _ _ _ _ _ _ _ _ _ _ _ _ _ _ _ _ _ _ _ _ _ _ _ _ _ _ _ _ _ _ _ _
end Go.Proofs.YtchimfgbdfmegaaGreat
/- Put. -/
namespace Go.Proofs.YtchimfgbdfmegaaGreat
open Go.RowKit Go.Lib
set_option linter.unusedVariables false
set_option maxRecDepth 100000
set_option linter.unusedSimpArgs false
set_option maxRecDepth 100000
attribute [local irreducible] cnt
section
variable {H : ByteArray → Nat} {X F G : Nat → Prop} {tk : Option Nat} {lv : Bool} {base : Nat} {w w' w1 w2 : World}
theorem fresh_none {n l b : Nat} {e : Ending} (hcx : Cx X tk lv base w) (hB : Below w.heap.size w w1) (hI : Inn w.heap.size w1 b none (fun _ => .no) (.slice none 0 0) (.slice none 0 0))
    (hp : InnPost base (ownB none tk lv) b (.slice none 0 0) (.slice none 0 0) (newOw tk lv) (Slots.put (fun _ => .no) 0 .no) w1 e w2) :
    RetB (fun b1 w2 => (Fresh H X tk lv base (n + 1) l [] w b1 w2 ∧ Below w.heap.size w w2) ∧ Below w1.heap.size w1 w2) e w2 := by
  have hcx1 := hcx.below hB
  have hf := own_none hcx1.tv
  obtain ⟨b1, e1, F', hT, hk, hv, hF⟩ := Trie.change (H := H) (F := fun _ => False) (G := fun _ => False) (n := n) (l := l) (ps := []) (ps' := []) (qs := []) (Fs := fun _ _ => False) hcx1 (hI.base hcx.base) ⟨fun h => (by rw [hf] at h; cases h), fun _ => ⟨fun _ h => h, fun _ _ _ h => h⟩⟩ (fun c hc => ⟨rfl, fun _ h => h⟩) (i := 0) (by omega) (KeepF.refl _ w1) (x := .no) ⟨rfl, fun _ h => h⟩ (fun _ h => h.elim) hp (fun c hc => rfl) rfl
  have hBB := hk.below (fun _ h => h)
  exact ⟨b1, e1, ⟨⟨F', hT, hv, fun x hx => (hF x hx).elim (fun h => h.elim) (fun h => Nat.le_trans hB.size h)⟩, hB.trans (hBB.mono hB.size)⟩, hBB⟩
end
theorem begun_some (k0 k1 m hh : Int) (T : Option Addr) (b : Nat) (w : World) :
    Calls Tryz.prog 52 #[.agg #[.int .u64 k0, .int .u64 k1, .int .u64 m, .int .u64 hh, .pointer T], .pointer (some ⟨b, 0, none⟩)] w fun e w' => e = .returned (.pointer (some ⟨b, 0, none⟩)) ∧ Below w.heap.size w w' := by
  have hB0 := (Below.refl _ w).alloc (Nat.le_refl _) (.cells #[.int .u64 k0, .int .u64 k1, .int .u64 m, .int .u64 hh, .pointer T] 112)
  go_enter Tryz.func52, Tryz.ntmps52
  go_wp2_with fail
  go_ret
  exact ⟨rfl, hB0⟩
set_option maxHeartbeats 4000000 in
theorem begun_nil (H : ByteArray → Nat) (k0 k1 m hh : Int) (X : Nat → Prop) (tk : Option Nat) (lv : Bool) (base n l : Nat) (T : Option Addr) (w : World) (hT : pt tk = .pointer T) (hcx : Cx X tk lv base w) :
    Calls Tryz.prog 52 #[.agg #[.int .u64 k0, .int .u64 k1, .int .u64 m, .int .u64 hh, .pointer T], .pointer none] w (RetB fun b1 w1 => Fresh H X tk lv base (n + 1) l [] w b1 w1 ∧ Below w.heap.size w w1) := by
  have hB0 := (Below.refl _ w).alloc (Nat.le_refl _) (.cells #[.int .u64 k0, .int .u64 k1, .int .u64 m, .int .u64 hh, .pointer T] 112)
  have hbx := Blk.new w 112 #[.int .u64 k0, .int .u64 k1, .int .u64 m, .int .u64 hh, .pointer T]
  have HP := Lib.hid (fun (b : Nat) (w1 : World) (hB : Below w.heap.size w w1) (hI : Inn w.heap.size w1 b none (fun _ => .no) (.slice none 0 0) (.slice none 0 0)) => (Inn.clear base b 0 none tk false lv _ _ _ w1 (hI.base hcx.base) (hcx.tv.below hB) (TV.nil _) (by omega) (Nat.le_trans hcx.base hB.size)).mono fun e w2 hp => fresh_none (H := H) (n := n) (l := l) hcx hB hI hp)
  rw [hT] at HP
  unfold at0 at HP
  clear hcx hT
  go_enter Tryz.func52, Tryz.ntmps52
  go_upto_region 1 with (fail)
  generalize w.alloc (.cells #[.int .u64 k0, .int .u64 k1, .int .u64 m, .int .u64 hh, .pointer T] 112) = W at *
  obtain ⟨N1, hN1⟩ : ∃ N1, N1 = w.heap.size := ⟨_, rfl⟩
  rw [← hN1] at hbx ⊢
  clear hN1
  have hS : (fun w' : World => w'.cell? ⟨N1, 4, none⟩ = some (.pointer T)) W.drew := hbx.cell 4
  have hBd : Below w.heap.size w W.drew := hB0.drew
  clear hbx hB0
  go_upto_region 2 with (fail)
  go_region_held3 (fun w' : World => w'.cell? ⟨N1, 4, none⟩ = some (.pointer T)) (first | exact hS | exact hK) (first
    | (have _g := hA; clear _g; go_at_call 22; refine (HP.out _ _ hBb hA).mono ?_; rintro e w3 ⟨b1, rfl, hR, hB3⟩; have hK : (fun w' : World => w'.cell? ⟨N1, 4, none⟩ = some (.pointer T)) w3 := (hB3.cell (World.block_lt_of_cell? w2 _ hK2)).trans hK2)
    | (go_at_call 24; refine (Inn.new _).mono ?_; rintro e w2 ⟨b0, rfl, hb0, hA, hB2⟩; unfold at0; have hK : (fun w' : World => w'.cell? ⟨N1, 4, none⟩ = some (.pointer T)) w2 := (hB2.cell (World.block_lt_of_cell? W.drew _ hS)).trans hS; have hK2 := hK; replace hA := hA.base hBd.size; have hBb := hBd.trans (hB2.mono hBd.size)))
  clear HP
  go_wp2_with fail
  go_ret
  exact ⟨b1, rfl, hR⟩
/-- what Put and Drop return -/
def RetBB (R : Nat → World → Prop) (f : Bool) (e : Ending) (w : World) : Prop := ∃ b, e = .returned (.tuple #[.pointer (some ⟨b, 0, none⟩), .bool f]) ∧ R b w
set_option maxHeartbeats 8000000 in
theorem Put_same (k0 k1 m : Int) (X : Nat → Prop) (tk : Option Nat) (lv : Bool) (base : Nat) (T : Option Addr) (pk pu : ByteArray) (b : Nat) (ps : List Pr) (F : Nat → Prop) (w : World) (hT : pt tk = .pointer T) (h0 : U64 k0) (h1 : U64 k1) (hs : pk.size ≤ 1000)
    (hTr : Trie (hz k0 k1 m) X tk lv base w 13 0 b ps F) (hn : ps.length ≤ 700) (hg : getK ps pk = some pu) :
    Calls Tryz.prog 28 #[.agg #[.int .u64 k0, .int .u64 k1, .int .u64 m], .pointer T, .pointer (some ⟨b, 0, none⟩), .agg #[.string pk, .string pu]] w fun e w' => e = .returned (.tuple #[.pointer (some ⟨b, 0, none⟩), .bool false]) ∧ Below w.heap.size w w' := by
  have hB0 := ((Below.refl _ w).alloc (Nat.le_refl _) (.cells #[.int .u64 k0, .int .u64 k1, .int .u64 m] 26)).alloc (by simp) (.cells #[.string pk, .string pu] 52)
  have b2 := Blk.new (w.alloc (.cells #[.int .u64 k0, .int .u64 k1, .int .u64 m] 26)) 52 #[.string pk, .string pu]
  have b1 := (Blk.new w 26 #[.int .u64 k0, .int .u64 k1, .int .u64 m]).alloc (.cells #[.string pk, .string pu] 52)
  have e1 : (w.alloc (.cells #[.int .u64 k0, .int .u64 k1, .int .u64 m] 26)).heap.size = w.heap.size + 1 := by simp
  rw [e1] at b2
  have HT := Lib.hid hTr
  clear hTr e1
  go_enter Tryz.func28, Tryz.ntmps28
  go_upto_region 1 with (fail)
  generalize (w.alloc (.cells #[.int .u64 k0, .int .u64 k1, .int .u64 m] 26)).alloc (.cells #[.string pk, .string pu] 52) = W at *
  generalize w.heap.size + 1 = N2 at *
  obtain ⟨N1, hN1⟩ : ∃ N1, N1 = w.heap.size := ⟨_, rfl⟩
  rw [← hN1] at b1 ⊢
  clear hN1
  have c0 : W.cell? ⟨N1, 0, none⟩ = some (.int .u64 k0) := b1.cell 0
  have c1 : W.cell? ⟨N1, 1, none⟩ = some (.int .u64 k1) := b1.cell 1
  have c2 : W.cell? ⟨N1, 2, none⟩ = some (.int .u64 m) := b1.cell 2
  have p0 : W.cell? ⟨N2, 0, none⟩ = some (.string pk) := b2.cell 0
  go_wp2_with fail
  refine (hash_hz k0 k1 m pk W h0 h1 hs).mono ?_
  rintro e w1 ⟨rfl, hB1⟩
  have hB01 := hB0.trans (hB1.mono hB0.size)
  have kf := find_trie (hz k0 k1 m) X tk lv base b ps F pk w1 (HT.out.below hB01) (hz_int k0 k1 m pk).2 (by omega)
  rw [hg] at kf
  unfold at0 at kf
  clear HT c0 c1 c2 p0
  have p0 : w1.cell? ⟨N2, 0, none⟩ = some (.string pk) := (b2.below hB1).cell 0
  have b21 := b2.below hB1
  clear b2 b1 hB1 hB0
  go_wp2_with fail
  refine kf.mono ?_
  rintro e w2 ⟨rfl, hB2⟩
  simp only [Option.getD_some, Option.isSome_some]
  have p1 : w2.cell? ⟨N2, 1, none⟩ = some (.string pu) := (b21.below hB2).cell 1
  clear p0 b21
  go_wp2_with fail
  go_ret2
  exact ⟨rfl, hB01.trans (hB2.mono hB01.size)⟩
end Go.Proofs.YtchimfgbdfmegaaGreat
/- Put, where something changes. -/
namespace Go.Proofs.YtchimfgbdfmegaaGreat
open Go.RowKit Go.Lib
set_option linter.unusedVariables false
set_option maxRecDepth 100000
set_option linter.unusedSimpArgs false
set_option maxRecDepth 100000
attribute [local irreducible] cnt
set_option maxHeartbeats 8000000 in
theorem Put_none (k0 k1 m : Int) (X : Nat → Prop) (tk : Option Nat) (lv : Bool) (base : Nat) (T : Option Addr) (pk pu : ByteArray) (b : Nat) (ps : List Pr) (F : Nat → Prop) (w : World) (hT : pt tk = .pointer T) (h0 : U64 k0) (h1 : U64 k1) (hs : pk.size ≤ 1000) (hcx : Cx X tk lv base w)
    (hTr : Trie (hz k0 k1 m) X tk lv base w 13 0 b ps F) (hr : RisesL ps) (hn : ps.length ≤ 700) (hz1 : ∀ x ∈ ps, x.1.size ≤ 1000) (hg : getK ps pk = none) :
    Calls Tryz.prog 28 #[.agg #[.int .u64 k0, .int .u64 k1, .int .u64 m], .pointer T, .pointer (some ⟨b, 0, none⟩), .agg #[.string pk, .string pu]] w (RetBB (fun b1 w1 => ChPost (hz k0 k1 m) X tk lv base 13 0 (putK ps (pk, pu)) F w b1 w1) true) := by
  have hB0 := ((Below.refl _ w).alloc (Nat.le_refl _) (.cells #[.int .u64 k0, .int .u64 k1, .int .u64 m] 26)).alloc (by simp) (.cells #[.string pk, .string pu] 52)
  have b2 := Blk.new (w.alloc (.cells #[.int .u64 k0, .int .u64 k1, .int .u64 m] 26)) 52 #[.string pk, .string pu]
  have b1 := (Blk.new w 26 #[.int .u64 k0, .int .u64 k1, .int .u64 m]).alloc (.cells #[.string pk, .string pu] 52)
  have e1 : (w.alloc (.cells #[.int .u64 k0, .int .u64 k1, .int .u64 m] 26)).heap.size = w.heap.size + 1 := by simp
  rw [e1] at b2
  clear e1
  have hle2 : w.heap.size ≤ w.heap.size + 1 := Nat.le_succ _
  have hbl := Trie.blocks _ _ _ _ _ hTr
  have HPU := Lib.hid (fun (N1 N2 : Nat) (w1 : World) (hB : Below w.heap.size w w1) (hN1 : w.heap.size ≤ N1) (hN2 : w.heap.size ≤ N2) (hbx : Bx N1 N2 k0 k1 m (hz k0 k1 m pk : Nat) T pk pu w1) => show Calls Tryz.prog 51 #[.agg #[.int .u64 k0, .int .u64 k1, .int .u64 m, .int .u64 (hz k0 k1 m pk : Nat), .pointer T], .pointer (some ⟨b, 0, none⟩), .int .i64 (0 : Nat), .bool true, .agg #[.string pk, .string pu]] w1 (RetB fun b1 w2 => ChPost (hz k0 k1 m) X tk lv base 13 0 (putK ps (pk, pu)) F w b1 w2 ∧ Bx N1 N2 k0 k1 m (hz k0 k1 m pk : Nat) T pk pu w2) from (put_any k0 k1 m X tk lv base T pk pu hT h0 h1 hs 13 0 b ps F w1 true (by omega) (hcx.below hB) (Trie.below hTr hB) hr hn hz1 (.inl rfl)).mono fun e w2 h => h.mono fun b1 hc => ⟨hc.from hB, by
    obtain ⟨F', -, hk, -, -⟩ := hc
    exact hk.bx hbx (fun h => by have := (hbl _ h).2.1; omega) (fun h => by have := (hbl _ h).2.1; omega)⟩)
  have HFI := Lib.hid (fun (w1 : World) (hB : Below w.heap.size w w1) => by have := find_trie (hz k0 k1 m) X tk lv base b ps F pk w1 (Trie.below hTr hB) (hz_int k0 k1 m pk).2 (by omega); rw [hg] at this; unfold at0 at this; exact this)
  obtain ⟨Hk, hHk⟩ : ∃ Hk, Hk = hz k0 k1 m pk := ⟨_, rfl⟩
  have hha := fun w' => hash_hz k0 k1 m pk w' h0 h1 hs
  rw [← hHk] at HPU HFI hha
  clear hHk hcx hT h0 h1 hs hTr hr hz1 hg hbl
  go_enter Tryz.func28, Tryz.ntmps28
  go_upto_region 1 with (fail)
  generalize (w.alloc (.cells #[.int .u64 k0, .int .u64 k1, .int .u64 m] 26)).alloc (.cells #[.string pk, .string pu] 52) = W at *
  obtain ⟨N2, hN2⟩ : ∃ N2, N2 = w.heap.size + 1 := ⟨_, rfl⟩
  rw [← hN2] at b2 hle2 ⊢
  clear hN2
  obtain ⟨N0, hN0⟩ : ∃ N0, N0 = w.heap.size := ⟨_, rfl⟩
  rw [← hN0] at b1 ⊢
  clear hN0
  have c0 : W.cell? ⟨N0, 0, none⟩ = some (.int .u64 k0) := b1.cell 0
  have c1 : W.cell? ⟨N0, 1, none⟩ = some (.int .u64 k1) := b1.cell 1
  have c2 : W.cell? ⟨N0, 2, none⟩ = some (.int .u64 m) := b1.cell 2
  have p0 : W.cell? ⟨N2, 0, none⟩ = some (.string pk) := b2.cell 0
  go_wp2_with fail
  refine (hha W).mono ?_
  rintro e w1 ⟨rfl, hB1⟩
  have hB01 := hB0.trans (hB1.mono hB0.size)
  have kf := HFI.out w1 hB01
  clear HFI c0 c1 c2 p0
  have p0 : w1.cell? ⟨N2, 0, none⟩ = some (.string pk) := (b2.below hB1).cell 0
  have b21 := b2.below hB1
  have b11 := b1.below hB1
  clear b2 b1 hB1 hB0 hha
  go_wp2_with fail
  refine kf.mono ?_
  rintro e w2 ⟨rfl, hB2⟩
  simp only [Option.getD_some, Option.isSome_some, Option.getD_none, Option.isSome_none]
  have b22 := b21.below hB2
  have b12 := b11.below hB2
  have p1 : w2.cell? ⟨N2, 1, none⟩ = some (.string pu) := b22.cell 1
  have c0 : w2.cell? ⟨N0, 0, none⟩ = some (.int .u64 k0) := b12.cell 0
  have c1 : w2.cell? ⟨N0, 1, none⟩ = some (.int .u64 k1) := b12.cell 1
  have c2 : w2.cell? ⟨N0, 2, none⟩ = some (.int .u64 m) := b12.cell 2
  have hB02 := hB01.trans (hB2.mono hB01.size)
  clear p0 b21 b11 kf hB01 hB2
  go_upto_region 6 with (fail)
  have hB03 := hB02.alloc hB02.size (.cells #[.int .u64 k0, .int .u64 k1, .int .u64 m, .int .u64 (Hk : Nat), .pointer T] 112)
  have hnew := Blk.new w2 112 #[.int .u64 k0, .int .u64 k1, .int .u64 m, .int .u64 (Hk : Nat), .pointer T]
  have b23 := b22.alloc (.cells #[.int .u64 k0, .int .u64 k1, .int .u64 m, .int .u64 (Hk : Nat), .pointer T] 112)
  have hle1 := hB02.size
  clear c0 c1 c2 p1 b22 b12 hB02
  generalize w2.alloc (.cells #[.int .u64 k0, .int .u64 k1, .int .u64 m, .int .u64 (Hk : Nat), .pointer T] 112) = W2 at *
  generalize w2.heap.size = N1 at *
  have hbW : Bx N1 N2 k0 k1 m (Hk : Nat) T pk pu W2.drew := ⟨hnew.cell 0, hnew.cell 1, hnew.cell 2, hnew.cell 3, hnew.cell 4, b23.cell 0, b23.cell 1⟩
  have hS : (fun w' : World => w'.cell? ⟨N1, 0, none⟩ = some (.int .u64 k0) ∧ w'.cell? ⟨N1, 1, none⟩ = some (.int .u64 k1) ∧ w'.cell? ⟨N1, 2, none⟩ = some (.int .u64 m) ∧ w'.cell? ⟨N1, 3, none⟩ = some (.int .u64 (Hk : Nat)) ∧ w'.cell? ⟨N1, 4, none⟩ = some (.pointer T) ∧ w'.cell? ⟨N2, 0, none⟩ = some (.string pk) ∧ w'.cell? ⟨N2, 1, none⟩ = some (.string pu)) W2.drew := hbW
  have hBd : Below w.heap.size w W2.drew := hB03.drew
  clear hnew b23 hB03
  go_region_held3 (fun w' : World => w'.cell? ⟨N1, 0, none⟩ = some (.int .u64 k0) ∧ w'.cell? ⟨N1, 1, none⟩ = some (.int .u64 k1) ∧ w'.cell? ⟨N1, 2, none⟩ = some (.int .u64 m) ∧ w'.cell? ⟨N1, 3, none⟩ = some (.int .u64 (Hk : Nat)) ∧ w'.cell? ⟨N1, 4, none⟩ = some (.pointer T) ∧ w'.cell? ⟨N2, 0, none⟩ = some (.string pk) ∧ w'.cell? ⟨N2, 1, none⟩ = some (.string pu)) (first | exact hS | exact hK) (first
    | (have _g := hBl; clear _g; go_at_call 51; refine (HPU.out _ _ _ (hBd.trans (hBl.mono hBd.size)) hle1 hle2 hK3).mono ?_; rintro e w4 ⟨b1, rfl, hR, hK⟩)
    | (go_at_call 52; refine (begun_some k0 k1 m Hk T b _).mono ?_; rintro e w3 ⟨rfl, hBl⟩; have hK : (fun w' : World => w'.cell? ⟨N1, 0, none⟩ = some (.int .u64 k0) ∧ w'.cell? ⟨N1, 1, none⟩ = some (.int .u64 k1) ∧ w'.cell? ⟨N1, 2, none⟩ = some (.int .u64 m) ∧ w'.cell? ⟨N1, 3, none⟩ = some (.int .u64 (Hk : Nat)) ∧ w'.cell? ⟨N1, 4, none⟩ = some (.pointer T) ∧ w'.cell? ⟨N2, 0, none⟩ = some (.string pk) ∧ w'.cell? ⟨N2, 1, none⟩ = some (.string pu)) w3 := Bx.below (w := W2.drew) hbW hBl; have hK3 := hK))
  clear HPU
  go_wp2_with fail
  go_ret2
  exact ⟨b1, rfl, hR⟩
set_option maxHeartbeats 8000000 in
theorem Put_other (k0 k1 m : Int) (X : Nat → Prop) (tk : Option Nat) (lv : Bool) (base : Nat) (T : Option Addr) (pk pu : ByteArray) (b : Nat) (ps : List Pr) (F : Nat → Prop) (w : World) (hT : pt tk = .pointer T) (h0 : U64 k0) (h1 : U64 k1) (hs : pk.size ≤ 1000) (hcx : Cx X tk lv base w)
    (hTr : Trie (hz k0 k1 m) X tk lv base w 13 0 b ps F) (hr : RisesL ps) (hn : ps.length ≤ 700) (hz1 : ∀ x ∈ ps, x.1.size ≤ 1000) (v : ByteArray) (hg : getK ps pk = some v) (hv : v ≠ pu) :
    Calls Tryz.prog 28 #[.agg #[.int .u64 k0, .int .u64 k1, .int .u64 m], .pointer T, .pointer (some ⟨b, 0, none⟩), .agg #[.string pk, .string pu]] w (RetBB (fun b1 w1 => ChPost (hz k0 k1 m) X tk lv base 13 0 (putK ps (pk, pu)) F w b1 w1) false) := by
  have hB0 := ((Below.refl _ w).alloc (Nat.le_refl _) (.cells #[.int .u64 k0, .int .u64 k1, .int .u64 m] 26)).alloc (by simp) (.cells #[.string pk, .string pu] 52)
  have b2 := Blk.new (w.alloc (.cells #[.int .u64 k0, .int .u64 k1, .int .u64 m] 26)) 52 #[.string pk, .string pu]
  have b1 := (Blk.new w 26 #[.int .u64 k0, .int .u64 k1, .int .u64 m]).alloc (.cells #[.string pk, .string pu] 52)
  have e1 : (w.alloc (.cells #[.int .u64 k0, .int .u64 k1, .int .u64 m] 26)).heap.size = w.heap.size + 1 := by simp
  rw [e1] at b2
  clear e1
  have hle2 : w.heap.size ≤ w.heap.size + 1 := Nat.le_succ _
  have hbl := Trie.blocks _ _ _ _ _ hTr
  have HPU := Lib.hid (fun (N1 N2 : Nat) (w1 : World) (hB : Below w.heap.size w w1) (hN1 : w.heap.size ≤ N1) (hN2 : w.heap.size ≤ N2) (hbx : Bx N1 N2 k0 k1 m (hz k0 k1 m pk : Nat) T pk pu w1) => show Calls Tryz.prog 51 #[.agg #[.int .u64 k0, .int .u64 k1, .int .u64 m, .int .u64 (hz k0 k1 m pk : Nat), .pointer T], .pointer (some ⟨b, 0, none⟩), .int .i64 (0 : Nat), .bool true, .agg #[.string pk, .string pu]] w1 (RetB fun b1 w2 => ChPost (hz k0 k1 m) X tk lv base 13 0 (putK ps (pk, pu)) F w b1 w2 ∧ Bx N1 N2 k0 k1 m (hz k0 k1 m pk : Nat) T pk pu w2) from (put_any k0 k1 m X tk lv base T pk pu hT h0 h1 hs 13 0 b ps F w1 true (by omega) (hcx.below hB) (Trie.below hTr hB) hr hn hz1 (.inl rfl)).mono fun e w2 h => h.mono fun b1 hc => ⟨hc.from hB, by
    obtain ⟨F', -, hk, -, -⟩ := hc
    exact hk.bx hbx (fun h => by have := (hbl _ h).2.1; omega) (fun h => by have := (hbl _ h).2.1; omega)⟩)
  have HFI := Lib.hid (fun (w1 : World) (hB : Below w.heap.size w w1) => by have := find_trie (hz k0 k1 m) X tk lv base b ps F pk w1 (Trie.below hTr hB) (hz_int k0 k1 m pk).2 (by omega); rw [hg] at this; unfold at0 at this; exact this)
  have hne := bytes_ne hv
  obtain ⟨Hk, hHk⟩ : ∃ Hk, Hk = hz k0 k1 m pk := ⟨_, rfl⟩
  have hha := fun w' => hash_hz k0 k1 m pk w' h0 h1 hs
  rw [← hHk] at HPU HFI hha
  clear hHk hcx hT h0 h1 hs hTr hr hz1 hg hbl hv
  go_enter Tryz.func28, Tryz.ntmps28
  go_upto_region 1 with (fail)
  generalize (w.alloc (.cells #[.int .u64 k0, .int .u64 k1, .int .u64 m] 26)).alloc (.cells #[.string pk, .string pu] 52) = W at *
  obtain ⟨N2, hN2⟩ : ∃ N2, N2 = w.heap.size + 1 := ⟨_, rfl⟩
  rw [← hN2] at b2 hle2 ⊢
  clear hN2
  obtain ⟨N0, hN0⟩ : ∃ N0, N0 = w.heap.size := ⟨_, rfl⟩
  rw [← hN0] at b1 ⊢
  clear hN0
  have c0 : W.cell? ⟨N0, 0, none⟩ = some (.int .u64 k0) := b1.cell 0
  have c1 : W.cell? ⟨N0, 1, none⟩ = some (.int .u64 k1) := b1.cell 1
  have c2 : W.cell? ⟨N0, 2, none⟩ = some (.int .u64 m) := b1.cell 2
  have p0 : W.cell? ⟨N2, 0, none⟩ = some (.string pk) := b2.cell 0
  go_wp2_with fail
  refine (hha W).mono ?_
  rintro e w1 ⟨rfl, hB1⟩
  have hB01 := hB0.trans (hB1.mono hB0.size)
  have kf := HFI.out w1 hB01
  clear HFI c0 c1 c2 p0
  have p0 : w1.cell? ⟨N2, 0, none⟩ = some (.string pk) := (b2.below hB1).cell 0
  have b21 := b2.below hB1
  have b11 := b1.below hB1
  clear b2 b1 hB1 hB0 hha
  go_wp2_with fail
  refine kf.mono ?_
  rintro e w2 ⟨rfl, hB2⟩
  simp only [Option.getD_some, Option.isSome_some, Option.getD_none, Option.isSome_none]
  have b22 := b21.below hB2
  have b12 := b11.below hB2
  have p1 : w2.cell? ⟨N2, 1, none⟩ = some (.string pu) := b22.cell 1
  have c0 : w2.cell? ⟨N0, 0, none⟩ = some (.int .u64 k0) := b12.cell 0
  have c1 : w2.cell? ⟨N0, 1, none⟩ = some (.int .u64 k1) := b12.cell 1
  have c2 : w2.cell? ⟨N0, 2, none⟩ = some (.int .u64 m) := b12.cell 2
  have hB02 := hB01.trans (hB2.mono hB01.size)
  clear p0 b21 b11 kf hB01 hB2
  go_upto_region 6 with (fail)
  have hB03 := hB02.alloc hB02.size (.cells #[.int .u64 k0, .int .u64 k1, .int .u64 m, .int .u64 (Hk : Nat), .pointer T] 112)
  have hnew := Blk.new w2 112 #[.int .u64 k0, .int .u64 k1, .int .u64 m, .int .u64 (Hk : Nat), .pointer T]
  have b23 := b22.alloc (.cells #[.int .u64 k0, .int .u64 k1, .int .u64 m, .int .u64 (Hk : Nat), .pointer T] 112)
  have hle1 := hB02.size
  clear c0 c1 c2 p1 b22 b12 hB02
  generalize w2.alloc (.cells #[.int .u64 k0, .int .u64 k1, .int .u64 m, .int .u64 (Hk : Nat), .pointer T] 112) = W2 at *
  generalize w2.heap.size = N1 at *
  have hbW : Bx N1 N2 k0 k1 m (Hk : Nat) T pk pu W2.drew := ⟨hnew.cell 0, hnew.cell 1, hnew.cell 2, hnew.cell 3, hnew.cell 4, b23.cell 0, b23.cell 1⟩
  have hS : (fun w' : World => w'.cell? ⟨N1, 0, none⟩ = some (.int .u64 k0) ∧ w'.cell? ⟨N1, 1, none⟩ = some (.int .u64 k1) ∧ w'.cell? ⟨N1, 2, none⟩ = some (.int .u64 m) ∧ w'.cell? ⟨N1, 3, none⟩ = some (.int .u64 (Hk : Nat)) ∧ w'.cell? ⟨N1, 4, none⟩ = some (.pointer T) ∧ w'.cell? ⟨N2, 0, none⟩ = some (.string pk) ∧ w'.cell? ⟨N2, 1, none⟩ = some (.string pu)) W2.drew := hbW
  have hBd : Below w.heap.size w W2.drew := hB03.drew
  clear hnew b23 hB03 hne
  go_region_held3 (fun w' : World => w'.cell? ⟨N1, 0, none⟩ = some (.int .u64 k0) ∧ w'.cell? ⟨N1, 1, none⟩ = some (.int .u64 k1) ∧ w'.cell? ⟨N1, 2, none⟩ = some (.int .u64 m) ∧ w'.cell? ⟨N1, 3, none⟩ = some (.int .u64 (Hk : Nat)) ∧ w'.cell? ⟨N1, 4, none⟩ = some (.pointer T) ∧ w'.cell? ⟨N2, 0, none⟩ = some (.string pk) ∧ w'.cell? ⟨N2, 1, none⟩ = some (.string pu)) (first | exact hS | exact hK) (first
    | (have _g := hBl; clear _g; go_at_call 51; refine (HPU.out _ _ _ (hBd.trans (hBl.mono hBd.size)) hle1 hle2 hK3).mono ?_; rintro e w4 ⟨b1, rfl, hR, hK⟩)
    | (go_at_call 52; refine (begun_some k0 k1 m Hk T b _).mono ?_; rintro e w3 ⟨rfl, hBl⟩; have hK : (fun w' : World => w'.cell? ⟨N1, 0, none⟩ = some (.int .u64 k0) ∧ w'.cell? ⟨N1, 1, none⟩ = some (.int .u64 k1) ∧ w'.cell? ⟨N1, 2, none⟩ = some (.int .u64 m) ∧ w'.cell? ⟨N1, 3, none⟩ = some (.int .u64 (Hk : Nat)) ∧ w'.cell? ⟨N1, 4, none⟩ = some (.pointer T) ∧ w'.cell? ⟨N2, 0, none⟩ = some (.string pk) ∧ w'.cell? ⟨N2, 1, none⟩ = some (.string pu)) w3 := Bx.below (w := W2.drew) hbW hBl; have hK3 := hK))
  clear HPU
  go_wp2_with fail
  go_ret2
  exact ⟨b1, rfl, hR⟩
set_option maxHeartbeats 8000000 in
theorem Put_nil (k0 k1 m : Int) (X : Nat → Prop) (tk : Option Nat) (lv : Bool) (base : Nat) (T : Option Addr) (pk pu : ByteArray) (w : World) (hT : pt tk = .pointer T) (h0 : U64 k0) (h1 : U64 k1) (hs : pk.size ≤ 1000) (hcx : Cx X tk lv base w)
     :
    Calls Tryz.prog 28 #[.agg #[.int .u64 k0, .int .u64 k1, .int .u64 m], .pointer T, .pointer none, .agg #[.string pk, .string pu]] w (RetBB (fun b1 w1 => Fresh (hz k0 k1 m) X tk lv base 13 0 [(pk, pu)] w b1 w1 ∧ Below w.heap.size w w1) true) := by
  have hB0 := ((Below.refl _ w).alloc (Nat.le_refl _) (.cells #[.int .u64 k0, .int .u64 k1, .int .u64 m] 26)).alloc (by simp) (.cells #[.string pk, .string pu] 52)
  have b2 := Blk.new (w.alloc (.cells #[.int .u64 k0, .int .u64 k1, .int .u64 m] 26)) 52 #[.string pk, .string pu]
  have b1 := (Blk.new w 26 #[.int .u64 k0, .int .u64 k1, .int .u64 m]).alloc (.cells #[.string pk, .string pu] 52)
  have e1 : (w.alloc (.cells #[.int .u64 k0, .int .u64 k1, .int .u64 m] 26)).heap.size = w.heap.size + 1 := by simp
  rw [e1] at b2
  clear e1
  have hle2 : w.heap.size ≤ w.heap.size + 1 := Nat.le_succ _
  have HPU := Lib.hid (fun (N1 N2 : Nat) (w1 w2 : World) (b : Nat) (hB : Below w.heap.size w w1) (hbx : Bx N1 N2 k0 k1 m (hz k0 k1 m pk : Nat) T pk pu w1) (hB12 : Below w1.heap.size w1 w2) (hF : Fresh (hz k0 k1 m) X tk lv base 13 0 [] w1 b w2) => show Calls Tryz.prog 51 #[.agg #[.int .u64 k0, .int .u64 k1, .int .u64 m, .int .u64 (hz k0 k1 m pk : Nat), .pointer T], .pointer (some ⟨b, 0, none⟩), .int .i64 (0 : Nat), .bool true, .agg #[.string pk, .string pu]] w2 (RetB fun b1 w3 => (Fresh (hz k0 k1 m) X tk lv base 13 0 [(pk, pu)] w b1 w3 ∧ Below w.heap.size w w3) ∧ Bx N1 N2 k0 k1 m (hz k0 k1 m pk : Nat) T pk pu w3) by
    obtain ⟨F1, hT1, hv1, hF1⟩ := hF
    exact (put_any k0 k1 m X tk lv base T pk pu hT h0 h1 hs 13 0 b [] F1 w2 true (by omega) ((hcx.below hB).keep hB12.size hv1) hT1 List.Pairwise.nil (by simp) (by simp) (.inl rfl)).mono fun e w3 h => h.mono fun b1 hc => by
      obtain ⟨F', hT3, hk, hv3, hF'⟩ := hc
      have hB3 : Below w1.heap.size w2 w3 := hk.belowAt hF1 hB12.size
      have hB13 := hB12.trans hB3
      exact ⟨⟨⟨F', hT3, hv3, fun x hx => (hF' x hx).elim (fun h => Nat.le_trans hB.size (hF1 x h)) (fun h => Nat.le_trans hB.size (Nat.le_trans hB12.size h))⟩, hB.trans (hB13.mono hB.size)⟩, hbx.below hB13⟩)
  have HBG := Lib.hid (fun (w1 : World) (hB : Below w.heap.size w w1) => begun_nil (hz k0 k1 m) k0 k1 m (hz k0 k1 m pk : Nat) X tk lv base 12 0 T w1 hT (hcx.below hB))
  have HFI := Lib.hid (fun (w1 : World) (hB : Below w.heap.size w w1) => find_nil (hz k0 k1 m pk : Nat) pk w1 (by omega) (by have := (hz_int k0 k1 m pk).2; omega))
  obtain ⟨Hk, hHk⟩ : ∃ Hk, Hk = hz k0 k1 m pk := ⟨_, rfl⟩
  have hha := fun w' => hash_hz k0 k1 m pk w' h0 h1 hs
  rw [← hHk] at HPU HFI hha HBG
  clear hHk hcx hT h0 h1 hs
  go_enter Tryz.func28, Tryz.ntmps28
  go_upto_region 1 with (fail)
  generalize (w.alloc (.cells #[.int .u64 k0, .int .u64 k1, .int .u64 m] 26)).alloc (.cells #[.string pk, .string pu] 52) = W at *
  obtain ⟨N2, hN2⟩ : ∃ N2, N2 = w.heap.size + 1 := ⟨_, rfl⟩
  rw [← hN2] at b2 hle2 ⊢
  clear hN2
  obtain ⟨N0, hN0⟩ : ∃ N0, N0 = w.heap.size := ⟨_, rfl⟩
  rw [← hN0] at b1 ⊢
  clear hN0
  have c0 : W.cell? ⟨N0, 0, none⟩ = some (.int .u64 k0) := b1.cell 0
  have c1 : W.cell? ⟨N0, 1, none⟩ = some (.int .u64 k1) := b1.cell 1
  have c2 : W.cell? ⟨N0, 2, none⟩ = some (.int .u64 m) := b1.cell 2
  have p0 : W.cell? ⟨N2, 0, none⟩ = some (.string pk) := b2.cell 0
  go_wp2_with fail
  refine (hha W).mono ?_
  rintro e w1 ⟨rfl, hB1⟩
  have hB01 := hB0.trans (hB1.mono hB0.size)
  have kf := HFI.out w1 hB01
  clear HFI c0 c1 c2 p0
  have p0 : w1.cell? ⟨N2, 0, none⟩ = some (.string pk) := (b2.below hB1).cell 0
  have b21 := b2.below hB1
  have b11 := b1.below hB1
  clear b2 b1 hB1 hB0 hha
  go_wp2_with fail
  refine kf.mono ?_
  rintro e w2 ⟨rfl, hB2⟩
  simp only [Option.getD_some, Option.isSome_some, Option.getD_none, Option.isSome_none]
  have b22 := b21.below hB2
  have b12 := b11.below hB2
  have p1 : w2.cell? ⟨N2, 1, none⟩ = some (.string pu) := b22.cell 1
  have c0 : w2.cell? ⟨N0, 0, none⟩ = some (.int .u64 k0) := b12.cell 0
  have c1 : w2.cell? ⟨N0, 1, none⟩ = some (.int .u64 k1) := b12.cell 1
  have c2 : w2.cell? ⟨N0, 2, none⟩ = some (.int .u64 m) := b12.cell 2
  have hB02 := hB01.trans (hB2.mono hB01.size)
  clear p0 b21 b11 kf hB01 hB2
  go_upto_region 6 with (fail)
  have hB03 := hB02.alloc hB02.size (.cells #[.int .u64 k0, .int .u64 k1, .int .u64 m, .int .u64 (Hk : Nat), .pointer T] 112)
  have hnew := Blk.new w2 112 #[.int .u64 k0, .int .u64 k1, .int .u64 m, .int .u64 (Hk : Nat), .pointer T]
  have b23 := b22.alloc (.cells #[.int .u64 k0, .int .u64 k1, .int .u64 m, .int .u64 (Hk : Nat), .pointer T] 112)
  have hle1 := hB02.size
  clear c0 c1 c2 p1 b22 b12 hB02
  generalize w2.alloc (.cells #[.int .u64 k0, .int .u64 k1, .int .u64 m, .int .u64 (Hk : Nat), .pointer T] 112) = W2 at *
  generalize w2.heap.size = N1 at *
  have hbW : Bx N1 N2 k0 k1 m (Hk : Nat) T pk pu W2.drew := ⟨hnew.cell 0, hnew.cell 1, hnew.cell 2, hnew.cell 3, hnew.cell 4, b23.cell 0, b23.cell 1⟩
  have hS : (fun w' : World => w'.cell? ⟨N1, 0, none⟩ = some (.int .u64 k0) ∧ w'.cell? ⟨N1, 1, none⟩ = some (.int .u64 k1) ∧ w'.cell? ⟨N1, 2, none⟩ = some (.int .u64 m) ∧ w'.cell? ⟨N1, 3, none⟩ = some (.int .u64 (Hk : Nat)) ∧ w'.cell? ⟨N1, 4, none⟩ = some (.pointer T) ∧ w'.cell? ⟨N2, 0, none⟩ = some (.string pk) ∧ w'.cell? ⟨N2, 1, none⟩ = some (.string pu)) W2.drew := hbW
  have hBd : Below w.heap.size w W2.drew := hB03.drew
  clear hnew b23 hB03
  go_region_held3 (fun w' : World => w'.cell? ⟨N1, 0, none⟩ = some (.int .u64 k0) ∧ w'.cell? ⟨N1, 1, none⟩ = some (.int .u64 k1) ∧ w'.cell? ⟨N1, 2, none⟩ = some (.int .u64 m) ∧ w'.cell? ⟨N1, 3, none⟩ = some (.int .u64 (Hk : Nat)) ∧ w'.cell? ⟨N1, 4, none⟩ = some (.pointer T) ∧ w'.cell? ⟨N2, 0, none⟩ = some (.string pk) ∧ w'.cell? ⟨N2, 1, none⟩ = some (.string pu)) (first | exact hS | exact hK) (first
    | (have _g := hA; clear _g; go_at_call 51; refine (HPU.out _ _ _ _ _ hBd hbW hBl hA).mono ?_; rintro e w4 ⟨b1, rfl, hR, hK⟩)
    | (go_at_call 52; refine (HBG.out _ hBd).mono ?_; rintro e w3 ⟨b0, rfl, hA, hBl⟩; have hK : (fun w' : World => w'.cell? ⟨N1, 0, none⟩ = some (.int .u64 k0) ∧ w'.cell? ⟨N1, 1, none⟩ = some (.int .u64 k1) ∧ w'.cell? ⟨N1, 2, none⟩ = some (.int .u64 m) ∧ w'.cell? ⟨N1, 3, none⟩ = some (.int .u64 (Hk : Nat)) ∧ w'.cell? ⟨N1, 4, none⟩ = some (.pointer T) ∧ w'.cell? ⟨N2, 0, none⟩ = some (.string pk) ∧ w'.cell? ⟨N2, 1, none⟩ = some (.string pu)) w3 := Bx.below (w := W2.drew) hbW hBl))
  clear HPU HBG
  go_wp2_with fail
  go_ret2
  exact ⟨b1, rfl, hR⟩
end Go.Proofs.YtchimfgbdfmegaaGreat
/- Of two pairs the other one: what is left of a child. -/
namespace Go.Proofs.YtchimfgbdfmegaaGreat
open Go.RowKit Go.Lib
set_option linter.unusedVariables false
set_option maxRecDepth 100000
set_option linter.unusedSimpArgs false
set_option maxRecDepth 100000
attribute [local irreducible] cnt
section
variable {H : ByteArray → Nat} {l : Nat}
theorem sum_zero {f : Nat → Nat} : ∀ n, (∀ c, c < n → f c = 0) → ((List.range n).map f).sum = 0
  | 0, _ => rfl
  | n + 1, h => by rw [List.range_succ, List.map_append, List.sum_append, sum_zero n (fun c hc => h c (by omega))]; simp [h n (by omega)]
theorem sum_add {f g : Nat → Nat} : ∀ n, ((List.range n).map fun c => f c + g c).sum = ((List.range n).map f).sum + ((List.range n).map g).sum
  | 0 => rfl
  | n + 1 => by rw [List.range_succ, List.map_append, List.map_append, List.map_append, List.sum_append, List.sum_append, List.sum_append, sum_add n]; simp; omega
theorem sum_one (k : Nat) : ∀ n, k < n → ((List.range n).map fun c => if k = c then 1 else 0).sum = 1
  | 0, h => by omega
  | n + 1, h => by
    rw [List.range_succ, List.map_append, List.sum_append]
    by_cases e : k = n
    · rw [sum_zero n (fun c hc => by rw [if_neg (by omega)])]; simp [e]
    · rw [sum_one k n (by omega)]; simp [e]
theorem sum_congr {f g : Nat → Nat} : ∀ n, (∀ c, c < n → f c = g c) → ((List.range n).map f).sum = ((List.range n).map g).sum
  | 0, _ => rfl
  | n + 1, h => by rw [List.range_succ, List.map_append, List.map_append, List.sum_append, List.sum_append, sum_congr n (fun c hc => h c (by omega))]; simp [h n (by omega)]
theorem sum_le {f g : Nat → Nat} : ∀ n, (∀ c, c < n → f c ≤ g c) → ((List.range n).map f).sum ≤ ((List.range n).map g).sum
  | 0, _ => by simp
  | n + 1, h => by
    rw [List.range_succ, List.map_append, List.map_append, List.sum_append, List.sum_append]
    have h1 := sum_le n (fun c hc => h c (by omega))
    have h2 := h n (by omega)
    simp; omega
/-- the chunks' pairs are all pairs -/
theorem sub_sum : ∀ ps : List Pr, ((List.range 32).map fun c => (sub H l c ps).length).sum = ps.length
  | [] => sum_zero 32 fun c _ => rfl
  | p :: r => by
    have e : ∀ c, c < 32 → (sub H l c (p :: r)).length = (if chk H l p.1 = c then 1 else 0) + (sub H l c r).length := fun c _ => by
      unfold sub
      rw [List.filter_cons]
      by_cases h : chk H l p.1 = c
      · simp [h]; omega
      · simp [h]
    rw [sum_congr 32 e, sum_add, sum_one _ 32 (chk_lt _ _ _), sub_sum r, List.length_cons]; omega
theorem fm_sum {α : Type} (f : Nat → Option α) : ∀ n, (fm f n).length = ((List.range n).map fun c => (f c).toList.length).sum
  | 0 => rfl
  | n + 1 => by rw [fm_succ, List.length_append, fm_sum f n, List.range_succ, List.map_append, List.sum_append]; simp
theorem fm_mem {α : Type} {f : Nat → Option α} {n : Nat} {a : α} : a ∈ fm f n ↔ ∃ c, c < n ∧ f c = some a := by
  unfold fm
  rw [List.mem_filterMap]
  simp [List.mem_range]
end
/-- the slots of a trie's node, as to its pairs -/
structure SlotsOf (H : ByteArray → Nat) (l : Nat) (S : Slots) (ps : List Pr) : Prop where
  at_ : ∀ c, c < 32 → (S c = .no ∧ sub H l c ps = []) ∨ (∃ p, S c = .pr p ∧ sub H l c ps = [p]) ∨ ∃ k, S c = .kd k ∧ 2 ≤ (sub H l c ps).length
section
variable {H : ByteArray → Nat} {l : Nat} {S : Slots} {ps : List Pr}
/-- no children: all pairs are in the node -/
theorem SlotsOf.leaf (h : SlotsOf H l S ps) (hk : fm S.K 32 = []) : (fm S.P 32).length = ps.length ∧ ∀ p, p ∈ fm S.P 32 ↔ p ∈ ps := by
  have hno : ∀ c, c < 32 → ∀ k, S c ≠ .kd k := fun c hc k e => by
    have : k ∈ fm S.K 32 := fm_mem.2 ⟨c, hc, by unfold Slots.K; rw [e]; rfl⟩
    rw [hk] at this; simp at this
  have e : ∀ c, c < 32 → (S.P c).toList = sub H l c ps := fun c hc => by
    rcases h.at_ c hc with ⟨h1, h2⟩ | ⟨p, h1, h2⟩ | ⟨k, h1, _⟩
    · unfold Slots.P; rw [h1, h2]; rfl
    · unfold Slots.P; rw [h1, h2]; rfl
    · exact absurd h1 (hno c hc k)
  refine ⟨?_, fun p => ?_⟩
  · rw [fm_sum, sum_congr 32 (g := fun c => (sub H l c ps).length) (fun c hc => by rw [e c hc]), sub_sum]
  · rw [fm_mem]
    constructor
    · rintro ⟨c, hc, hp⟩
      have := e c hc
      rw [hp] at this
      exact (sub_mem.1 (by rw [← this]; simp)).1
    · intro hp
      refine ⟨chk H l p.1, chk_lt _ _ _, ?_⟩
      have h1 : p ∈ sub H l (chk H l p.1) ps := sub_mem.2 ⟨hp, rfl⟩
      rw [← e _ (chk_lt _ _ _)] at h1
      cases hs : S.P (chk H l p.1) with
      | none => rw [hs] at h1; simp at h1
      | some q => rw [hs] at h1; simp at h1; rw [h1]
/-- a child, and something else: three pairs at least -/
theorem SlotsOf.many (h : SlotsOf H l S ps) (hk : fm S.K 32 ≠ []) (hn : 1 < (fm S.P 32).length + (fm S.K 32).length) : 3 ≤ ps.length := by
  rw [← sub_sum (H := H) (l := l) ps]
  have h1 : (fm S.P 32).length + (fm S.K 32).length = ((List.range 32).map fun c => (S.P c).toList.length + (S.K c).toList.length).sum := by rw [fm_sum, fm_sum, ← sum_add]
  have h2 : ((List.range 32).map fun c => (S.P c).toList.length + (S.K c).toList.length + (S.K c).toList.length).sum ≤ ((List.range 32).map fun c => (sub H l c ps).length).sum := sum_le 32 fun c hc => by
    rcases h.at_ c hc with ⟨e1, e2⟩ | ⟨p, e1, e2⟩ | ⟨k, e1, e2⟩
    · unfold Slots.P Slots.K; rw [e1, e2]; simp [Sl.p?, Sl.k?]
    · unfold Slots.P Slots.K; rw [e1, e2]; simp [Sl.p?, Sl.k?]
    · unfold Slots.P Slots.K; rw [e1]; simp [Sl.p?, Sl.k?]; exact e2
  rw [sum_add] at h2
  have h3 : 0 < (fm S.K 32).length := List.length_pos_iff.2 hk
  rw [fm_sum] at h3
  omega
/-- one child and nothing else: it has all pairs -/
theorem SlotsOf.one (h : SlotsOf H l S ps) {k : Nat} (hk : fm S.K 32 = [k]) (hp : fm S.P 32 = []) : ∃ c, c < 32 ∧ S c = .kd k ∧ sub H l c ps = ps := by
  obtain ⟨c, hc, e⟩ := fm_mem.1 (show k ∈ fm S.K 32 by rw [hk]; simp)
  have hsc : S c = .kd k := by
    unfold Slots.K at e
    cases hs : S c with
    | no => rw [hs] at e; simp [Sl.k?] at e
    | pr p => rw [hs] at e; simp [Sl.k?] at e
    | kd j => rw [hs] at e; simp [Sl.k?] at e; rw [e]
  refine ⟨c, hc, hsc, ?_⟩
  unfold sub
  rw [List.filter_eq_self]
  intro x hx
  simp only [decide_eq_true_eq]
  have hm : x ∈ sub H l (chk H l x.1) ps := sub_mem.2 ⟨hx, rfl⟩
  have hlt := chk_lt H l x.1
  rcases h.at_ _ hlt with ⟨_, e2⟩ | ⟨p, e1, _⟩ | ⟨j, e1, _⟩
  · rw [e2] at hm; simp at hm
  · have : p ∈ fm S.P 32 := fm_mem.2 ⟨_, hlt, by unfold Slots.P; rw [e1]; rfl⟩
    rw [hp] at this; simp at this
  · have hj : (S.K (chk H l x.1)).toList.length = 1 := by unfold Slots.K; rw [e1]; rfl
    have hc1 : (S.K c).toList.length = 1 := by unfold Slots.K; rw [hsc]; rfl
    by_cases hne : chk H l x.1 = c
    · exact hne
    · exfalso
      have hl : (fm S.K 32).length = 1 := by rw [hk]; rfl
      rw [fm_sum] at hl
      have h2 : ((List.range 32).map fun d => (if chk H l x.1 = d then 1 else 0) + (if c = d then 1 else 0)).sum ≤ ((List.range 32).map fun d => (S.K d).toList.length).sum := sum_le 32 fun d hd => by
        by_cases e1 : chk H l x.1 = d
        · subst e1; rw [if_pos rfl, if_neg (fun e => hne e.symm), hj]; exact Nat.le_refl _
        · by_cases e2 : c = d
          · subst e2; rw [if_neg e1, if_pos rfl, hc1]; exact Nat.le_refl _
          · rw [if_neg e1, if_neg e2]; exact Nat.zero_le _
      rw [sum_add, sum_one _ 32 hlt, sum_one _ 32 hc] at h2
      omega
end
/-- of two pairs the one with another key -/
theorem other_two {ps xs : List Pr} {k : ByteArray} (hr : RisesL ps) (hl : ps.length = 2) (hx : xs.length = 2) (hm : ∀ p, p ∈ xs ↔ p ∈ ps) (hk : ∃ v, getK ps k = some v) :
    ∃ x y, xs = [x, y] ∧ ((x.1 = k ∧ dropK ps k = [y]) ∨ (x.1 ≠ k ∧ dropK ps k = [x])) := by
  obtain ⟨x, y, rfl⟩ : ∃ x y, xs = [x, y] := by
    match xs, hx with
    | [x, y], _ => exact ⟨x, y, rfl⟩
  obtain ⟨a, b, rfl⟩ : ∃ a b, ps = [a, b] := by
    match ps, hl with
    | [a, b], _ => exact ⟨a, b, rfl⟩
  have hab : a.1 ≠ b.1 := ((List.pairwise_cons.1 hr).1 b (by simp)).ne
  have dk : ∀ u v : Pr, u.1 = k → v.1 ≠ k → dropK [u, v] k = [v] ∧ dropK [v, u] k = [v] := fun u v h1 h2 => by
    have g1 : (u.1.toList == k.toList) = true := by rw [h1]; simp
    have g2 := bytes_ne h2
    unfold dropK
    constructor <;> simp [g1, g2]
  obtain ⟨v, hv⟩ := hk
  have hkm := getK_mem hv
  have hx1 : x = a ∨ x = b := by have := (hm x).1 (by simp); simpa using this
  have hy1 : y = a ∨ y = b := by have := (hm y).1 (by simp); simpa using this
  have ha : a = x ∨ a = y := by have := (hm a).2 (by simp); simpa using this
  have hb : b = x ∨ b = y := by have := (hm b).2 (by simp); simpa using this
  have hcase : (x = a ∧ y = b) ∨ (x = b ∧ y = a) := by
    rcases hx1 with rfl | rfl
    · rcases hy1 with rfl | rfl
      · rcases hb with rfl | rfl <;> exact absurd rfl hab
      · exact .inl ⟨rfl, rfl⟩
    · rcases hy1 with rfl | rfl
      · exact .inr ⟨rfl, rfl⟩
      · rcases ha with rfl | rfl <;> exact absurd rfl hab
  have hka : a.1 = k ∨ b.1 = k := by
    have : (k, v) = a ∨ (k, v) = b := by simpa using hkm
    rcases this with h | h
    · exact .inl (by rw [← h])
    · exact .inr (by rw [← h])
  refine ⟨x, y, rfl, ?_⟩
  rcases hcase with ⟨rfl, rfl⟩ | ⟨rfl, rfl⟩
  · rcases hka with h | h
    · exact .inl ⟨h, (dk x y h (fun e => hab (h.trans e.symm))).1⟩
    · exact .inr ⟨fun e => hab (e.trans h.symm), (dk y x h (fun e => hab (e.trans h.symm))).2⟩
  · rcases hka with h | h
    · exact .inr ⟨fun e => hab (h.trans e.symm), (dk y x h (fun e => hab (h.trans e.symm))).1⟩
    · exact .inl ⟨h, (dk x y h (fun e => hab (e.trans h.symm))).2⟩
end Go.Proofs.YtchimfgbdfmegaaGreat
