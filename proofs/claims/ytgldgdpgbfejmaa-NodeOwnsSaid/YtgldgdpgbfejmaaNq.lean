/- Pointers to nodes compared; the example of layer 5 returns true. -/
import Derived.Test.YtgldgdpgbfejmaaNp
namespace Go.Proofs.Ytgldgdpgbfejmaa
open Go.RowKit Go.Lib Go.Conc
set_option linter.unusedVariables false
set_option linter.unusedSimpArgs false
theorem info98 : ∃ j, Try.prog.info? 98 = some j ∧ j.size ≠ 0 := by
  have h : (Try.prog.info? 98).map (·.size) = some 6 := by kernel_rfl
  obtain ⟨i, hi, hb⟩ := Option.map_eq_some_iff.1 h
  exact ⟨i, hi, by omega⟩
theorem eql_node_same (b : Nat) (w : World) : (binOp .eql 39 (at0 b) (at0 b)).run Try.prog w = .ok (.bool true) w := by
  obtain ⟨j, hj, hs⟩ := info98
  exact run_eql_ptr_same (P := Try.prog) (w := w) ⟨b, 0, none⟩ Try.underlying39 hj
theorem eql_node_other {a b : Nat} {ca cb : Array Value} {ta tb : TypeId} (w : World) (hne : a ≠ b) (ha : Blk w a ta ca) (hb : Blk w b tb cb) :
    (binOp .eql 39 (at0 a) (at0 b)).run Try.prog w = .ok (.bool false) w := by
  obtain ⟨j, hj, hs⟩ := info98
  exact run_eql_ptr_other w Try.underlying39 hj hs (fun e => hne (congrArg Addr.block e)) ha hb
theorem neq_node_other {a b : Nat} {ca cb : Array Value} {ta tb : TypeId} (w : World) (hne : a ≠ b) (ha : Blk w a ta ca) (hb : Blk w b tb cb) :
    (binOp .neq 39 (at0 a) (at0 b)).run Try.prog w = .ok (.bool true) w := by
  obtain ⟨j, hj, hs⟩ := info98
  unfold at0
  have h : ∀ d : Nat, (Op.equalIn (d + 1) 39 (.pointer (some ⟨a, 0, none⟩)) (.pointer (some ⟨b, 0, none⟩))).run Try.prog w = .ok false w := fun d => by
    simp [Op.equalIn, run_underlying Try.underlying39, sizeOf, typeInfo, hj, hs, run_sameAddr_other w (a := ⟨a, 0, none⟩) (b := ⟨b, 0, none⟩) (fun e => hne (congrArg Addr.block e)) ha hb]
  simp only [binOp]
  simp [Op.equal, Op.maxDepth, h 9999]
theorem neq_node_same (a : Nat) (w : World) : (binOp .neq 39 (at0 a) (at0 a)).run Try.prog w = .ok (.bool false) w := by
  obtain ⟨j, hj, -⟩ := info98
  unfold at0
  have h : ∀ d : Nat, (Op.equalIn (d + 1) 39 (.pointer (some ⟨a, 0, none⟩)) (.pointer (some ⟨a, 0, none⟩))).run Try.prog w = .ok true w := fun d => by
    simp [Op.equalIn, run_underlying Try.underlying39, sizeOf, typeInfo, hj, run_sameAddr_same]
  simp only [binOp]
  simp [Op.equal, Op.maxDepth, h 9999]
theorem Inn.blk {base : Nat} {w : World} {b : Nat} {ow : Option Nat} {S : Slots} {pv kv : Value} (h : Inn base w b ow S pv kv) : ∃ cs, Blk w b 98 cs := by
  obtain ⟨d, nn, h, -, -⟩ := h
  exact ⟨_, h.blk⟩
theorem Inn.data (base b : Nat) (ow : Option Nat) (S : Slots) (pv kv : Value) (w : World) (h : Inn base w b ow S pv kv) (d : Nat) (hd : BitsOf d (fun i => (S.P i).isSome)) : Calls Try.prog 28 #[at0 b] w fun e w' => e = .returned (.int .u32 d) ∧ w = w' := by
  obtain ⟨d', nn, h, h1, h2⟩ := h
  obtain rfl := h1.ext hd
  exact data_any _ _ _ _ _ _ _ _ _ _ w h
theorem Chg.keepNew {b : Nat} {pv kv : Value} {b1 : Nat} {pv1 kv1 : Value} {w w' : World} (h : Chg false b pv kv b1 pv1 kv1 w w') : Below w.heap.size w w' := by
  have := h.keep
  rw [if_neg (by decide)] at this
  exact this.below (Nat.le_refl _) (by simp)
set_option maxRecDepth 100000 in
set_option maxHeartbeats 2000000 in
theorem awake5 (w : World) : Calls Try.prog 12 #[] w fun e w' => e = .returned (.bool true) ∧ Below w.heap.size w w' := by
  go_enter Try.func12, Try.ntmps12
  go_wp2_with fail
  refine (Inn.new w).mono ?_
  rintro e w1 ⟨a, rfl, ha, hA, hB1⟩
  have hs1 := hB1.size
  have hsp := Inn.setPair w.heap.size a 3 none none false false _ _ _ w1 hA (TV.nil _) (TV.nil _) (by omega) hs1 (⟨#[97]⟩, ⟨#[]⟩)
  unfold pt Pr.v at hsp
  unfold at0 at hsp ⊢
  go_wp2_with fail
  refine hsp.mono ?_
  rintro e w2 ⟨b, pv, kv, rfl, hb, hc⟩
  have hB2 := hc.keepNew
  have hne := hc.new rfl
  have hA2 := hA.below hB2
  obtain ⟨ca, hba⟩ := hA2.blk
  obtain ⟨cb, hbb⟩ := hb.blk
  obtain ⟨ca1, hba1⟩ := hA.blk
  have hlt := hba1.lt
  have hcmp := neq_node_other w2 (a := a) (b := b) (by omega) hba hbb
  have hd1 := Inn.data _ b _ _ _ _ w2 hb 8 ⟨by decide, by decide⟩
  have hd2 := Inn.data _ a _ _ _ _ w2 hA2 0 ⟨by decide, by decide⟩
  have hB := hB1.trans (hB2.mono hs1)
  clear hsp hA hA2 hb hc hba hbb hba1 hB1 hB2
  unfold at0 at *
  go_wp2_with fail
  refine hd1.mono ?_
  rintro e w' ⟨rfl, rfl⟩
  go_wp2_with fail
  refine hd2.mono ?_
  rintro e w' ⟨rfl, rfl⟩
  go_wp2_with fail
  go_ret
  exact ⟨rfl, hB⟩
end Go.Proofs.Ytgldgdpgbfejmaa
