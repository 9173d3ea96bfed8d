/- What End does, for every pool and token. -/
import Derived.Test.YtgldgdpgbfejmaaTb
import Derived.LaidEqlPtr
import Derived.KernelRfl
namespace Go.Proofs.Ytgldgdpgbfejmaa
open Go.RowKit Go.Conc
set_option linter.unusedVariables false
set_option linter.unusedSimpArgs false
theorem info84 : ∃ j, Try.prog.info? 110 = some j ∧ j.size ≠ 0 := by
  have h : (Try.prog.info? 110).map (·.size) = some 3 := by kernel_rfl
  obtain ⟨i, hi, hb⟩ := Option.map_eq_some_iff.1 h
  exact ⟨i, hi, by omega⟩
theorem info86 : ∃ j, Try.prog.info? 112 = some j ∧ j.size ≠ 0 := by
  have h : (Try.prog.info? 112).map (·.size) = some 3 := by kernel_rfl
  obtain ⟨i, hi, hb⟩ := Option.map_eq_some_iff.1 h
  exact ⟨i, hi, by omega⟩
theorem neq_pool_same (a : Addr) (w : World) : (binOp .neq 33 (.pointer (some a)) (.pointer (some a))).run Try.prog w = .ok (.bool false) w := by
  obtain ⟨j, hj, -⟩ := info84
  have h : ∀ d : Nat, (Op.equalIn (d + 1) 33 (.pointer (some a)) (.pointer (some a))).run Try.prog w = .ok true w := fun d => by
    simp [Op.equalIn, run_underlying Try.underlying33, sizeOf, typeInfo, hj, run_sameAddr_same]
  simp only [binOp]
  simp [Op.equal, Op.maxDepth, h 9999]
theorem neq_pool_other {a b : Nat} {ca cb : Array Value} {ta tb : TypeId} (w : World) (hne : a ≠ b) (ha : Blk w a ta ca) (hb : Blk w b tb cb) :
    (binOp .neq 33 (.pointer (some ⟨a, 0, none⟩)) (.pointer (some ⟨b, 0, none⟩))).run Try.prog w = .ok (.bool true) w := by
  obtain ⟨j, hj, hs⟩ := info84
  have h : ∀ d : Nat, (Op.equalIn (d + 1) 33 (.pointer (some ⟨a, 0, none⟩)) (.pointer (some ⟨b, 0, none⟩))).run Try.prog w = .ok false w := fun d => by
    simp [Op.equalIn, run_underlying Try.underlying33, sizeOf, typeInfo, hj, hs, run_sameAddr_other w (a := ⟨a, 0, none⟩) (b := ⟨b, 0, none⟩) (fun e => hne (congrArg Addr.block e)) ha hb]
  simp only [binOp]
  simp [Op.equal, Op.maxDepth, h 9999]
theorem eql_tok_other {a b : Nat} {ca cb : Array Value} {ta tb : TypeId} (w : World) (hne : a ≠ b) (ha : Blk w a ta ca) (hb : Blk w b tb cb) :
    (binOp .eql 64 (.pointer (some ⟨a, 0, none⟩)) (.pointer (some ⟨b, 0, none⟩))).run Try.prog w = .ok (.bool false) w := by
  obtain ⟨j, hj, hs⟩ := info86
  exact run_eql_ptr_other w Try.underlying64 hj hs (fun e => hne (congrArg Addr.block e)) ha hb

/-- the region of End that sends: its two sides may be done in any order -/
def eo0 : Oper := { dst := some 30, op := .move (.tmp 0), type := 33, pos := "token.go:57", after := #[], guard := none }
def eo1 : Oper := { dst := some 31, op := .nilCheck (.tmp 30), type := 0, pos := "token.go:57", after := #[{ on := 0, ground := .data }], guard := none }
def eo2 : Oper := { dst := some 32, op := .fieldAddr 110 (.tmp 31) 0, type := 0, pos := "token.go:57", after := #[{ on := 1, ground := .data }], guard := none }
def eo3 : Oper := { dst := some 33, op := .load 108 (.tmp 32), type := 108, pos := "token.go:57", after := #[{ on := 2, ground := .data }], guard := none }
def eo4 : Oper := { dst := some 34, op := .move (.tmp 1), type := 64, pos := "token.go:57", after := #[], guard := none }
def eo5 : Oper := { dst := some 35, op := .nilCheck (.tmp 34), type := 0, pos := "token.go:57", after := #[{ on := 4, ground := .data }], guard := none }
def eo6 : Oper := { dst := some 36, op := .fieldAddr 112 (.tmp 35) 1, type := 0, pos := "token.go:57", after := #[{ on := 5, ground := .data }], guard := none }
def eo7 : Oper := { dst := some 37, op := .load 3 (.tmp 36), type := 3, pos := "token.go:57", after := #[{ on := 6, ground := .data }], guard := none }
def eo8 : Oper := { dst := none, op := .send (.tmp 33) (.tmp 37), type := 0, pos := "token.go:57", after := #[{ on := 3, ground := .data }, { on := 7, ground := .data }], guard := none }
def e5ops : Array Oper := #[eo0, eo1, eo2, eo3, eo4, eo5, eo6, eo7, eo8]
theorem er0 {a : Act} {w : World} {v : Value} (h : a.eval (.tmp 0) = v) : (execOp a.eval eo0).run Try.prog w = .ok (.value v) w := by simp [eo0, execOp, h]
theorem er1 {a : Act} {w : World} {p : Addr} (h : a.eval (.tmp 30) = .pointer (some p)) : (execOp a.eval eo1).run Try.prog w = .ok (.value (.pointer (some p))) w := by generalize a.eval = ρ at h ⊢; simp [go_sem, eo1, execOp, h]
theorem er2 {a : Act} {w : World} {p : Nat} (h : a.eval (.tmp 31) = .pointer (some ⟨p, 0, none⟩)) : (execOp a.eval eo2).run Try.prog w = .ok (.value (.pointer (some ⟨p, 0, none⟩))) w := by generalize a.eval = ρ at h ⊢; simp [go_sem, eo2, execOp, h]
theorem er3 {a : Act} {w : World} {p c : Nat} (h : a.eval (.tmp 32) = .pointer (some ⟨p, 0, none⟩)) (hc : w.cell? ⟨p, 0, none⟩ = some (.chan (some c))) : (execOp a.eval eo3).run Try.prog w = .ok (.value (.chan (some c))) w := by generalize a.eval = ρ at h ⊢; simp [go_sem, eo3, execOp, h, hc]
theorem er4 {a : Act} {w : World} {v : Value} (h : a.eval (.tmp 1) = v) : (execOp a.eval eo4).run Try.prog w = .ok (.value v) w := by simp [eo4, execOp, h]
theorem er5 {a : Act} {w : World} {p : Addr} (h : a.eval (.tmp 34) = .pointer (some p)) : (execOp a.eval eo5).run Try.prog w = .ok (.value (.pointer (some p))) w := by generalize a.eval = ρ at h ⊢; simp [go_sem, eo5, execOp, h]
theorem er6 {a : Act} {w : World} {p : Nat} (h : a.eval (.tmp 35) = .pointer (some ⟨p, 0, none⟩)) : (execOp a.eval eo6).run Try.prog w = .ok (.value (.pointer (some ⟨p, 1, none⟩))) w := by generalize a.eval = ρ at h ⊢; simp [go_sem, eo6, execOp, h]
theorem er7 {a : Act} {w : World} {p : Nat} {i : Int} (h : a.eval (.tmp 36) = .pointer (some ⟨p, 1, none⟩)) (hc : w.cell? ⟨p, 1, none⟩ = some (.int .i64 i)) : (execOp a.eval eo7).run Try.prog w = .ok (.value (.int .i64 i)) w := by generalize a.eval = ρ at h ⊢; simp [go_sem, eo7, execOp, h, hc]
theorem er8 {a : Act} {w : World} {c : Nat} {v : Value} (h : a.eval (.tmp 33) = .chan (some c)) (h' : a.eval (.tmp 37) = v) : (execOp a.eval eo8).run Try.prog w = .ok (.comm #[scase c v (.tuple #[])] true .send) w := by generalize a.eval = ρ at h h' ⊢; simp [go_sem, eo8, execOp, scase, h, h']

set_option maxRecDepth 100000 in
set_option maxHeartbeats 4000000 in
theorem e5_any {Q : Exit → Act → World → Prop} (p c k t i s r : Nat) (q : List Nat) (w : World) (x2 x3 x4 x5 x6 x7 x8 x9 x10 x11 x12 x13 x14 x15 x16 x17 x18 x19 x20 x21 x22 x23 x24 x25 x26 x27 x28 x29 : Value)
    (h0 : w.cell? ⟨p, 0, none⟩ = some (.chan (some c))) (g1 : w.cell? ⟨t, 1, none⟩ = some (.int .i64 i)) (hc : w.heap[c]? = some (.chan k (ids q) false s r false)) (hq : q.length < k)
    (H : Q .normal ⟨#[.pointer (some ⟨p, 0, none⟩), .pointer (some ⟨t, 0, none⟩), x2, x3, x4, x5, x6, x7, x8, x9, x10, x11, x12, x13, x14, x15, x16, x17, x18, x19, x20, x21, x22, x23, x24, x25, x26, x27, x28, x29, .pointer (some ⟨p, 0, none⟩), .pointer (some ⟨p, 0, none⟩), .pointer (some ⟨p, 0, none⟩), .chan (some c), .pointer (some ⟨t, 0, none⟩), .pointer (some ⟨t, 0, none⟩), .pointer (some ⟨t, 1, none⟩), .int .i64 i], []⟩ (w.setChan c k (ids (q ++ [i])) false (s + 1) r false)) :
    AnyArr Try.prog e5ops Q 9 #[false, false, false, false, false, false, false, false, false] ⟨#[.pointer (some ⟨p, 0, none⟩), .pointer (some ⟨t, 0, none⟩), x2, x3, x4, x5, x6, x7, x8, x9, x10, x11, x12, x13, x14, x15, x16, x17, x18, x19, x20, x21, x22, x23, x24, x25, x26, x27, x28, x29, undef, undef, undef, undef, undef, undef, undef, undef], []⟩ w := by
  have n44 : AnyArr Try.prog e5ops Q 1 #[true, true, true, true, true, true, true, true, false] ⟨#[.pointer (some ⟨p, 0, none⟩), .pointer (some ⟨t, 0, none⟩), x2, x3, x4, x5, x6, x7, x8, x9, x10, x11, x12, x13, x14, x15, x16, x17, x18, x19, x20, x21, x22, x23, x24, x25, x26, x27, x28, x29, .pointer (some ⟨p, 0, none⟩), .pointer (some ⟨p, 0, none⟩), .pointer (some ⟨p, 0, none⟩), .chan (some c), .pointer (some ⟨t, 0, none⟩), .pointer (some ⟨t, 0, none⟩), .pointer (some ⟨t, 1, none⟩), .int .i64 i], []⟩ w := by
    refine anyArr_succ [8] (by kernel_rfl) (by simp) fun j hj t' => ?_
    obtain rfl : j = 8 := by simpa using hj
    refine arr_send (o := eo8) (c := c) (v := .int .i64 i) (z := .tuple #[]) (w' := w) rfl rfl (er8 rfl rfl) hc (by rw [ids_size]; exact hq) ?_
    rw [ids_push]
    exact anyArr_zero H t'
  have n34 : AnyArr Try.prog e5ops Q 2 #[true, true, true, false, true, true, true, true, false] ⟨#[.pointer (some ⟨p, 0, none⟩), .pointer (some ⟨t, 0, none⟩), x2, x3, x4, x5, x6, x7, x8, x9, x10, x11, x12, x13, x14, x15, x16, x17, x18, x19, x20, x21, x22, x23, x24, x25, x26, x27, x28, x29, .pointer (some ⟨p, 0, none⟩), .pointer (some ⟨p, 0, none⟩), .pointer (some ⟨p, 0, none⟩), undef, .pointer (some ⟨t, 0, none⟩), .pointer (some ⟨t, 0, none⟩), .pointer (some ⟨t, 1, none⟩), .int .i64 i], []⟩ w := by
    refine anyArr_succ [3] (by kernel_rfl) (by simp) fun j hj t' => ?_
    obtain rfl : j = 3 := by simpa using hj
    refine arr_value (o := eo3) (v := .chan (some c)) (w' := w) rfl rfl (er3 rfl h0) ?_
    exact n44 t'
  have n43 : AnyArr Try.prog e5ops Q 2 #[true, true, true, true, true, true, true, false, false] ⟨#[.pointer (some ⟨p, 0, none⟩), .pointer (some ⟨t, 0, none⟩), x2, x3, x4, x5, x6, x7, x8, x9, x10, x11, x12, x13, x14, x15, x16, x17, x18, x19, x20, x21, x22, x23, x24, x25, x26, x27, x28, x29, .pointer (some ⟨p, 0, none⟩), .pointer (some ⟨p, 0, none⟩), .pointer (some ⟨p, 0, none⟩), .chan (some c), .pointer (some ⟨t, 0, none⟩), .pointer (some ⟨t, 0, none⟩), .pointer (some ⟨t, 1, none⟩), undef], []⟩ w := by
    refine anyArr_succ [7] (by kernel_rfl) (by simp) fun j hj t' => ?_
    obtain rfl : j = 7 := by simpa using hj
    refine arr_value (o := eo7) (v := .int .i64 i) (w' := w) rfl rfl (er7 rfl g1) ?_
    exact n44 t'
  have n24 : AnyArr Try.prog e5ops Q 3 #[true, true, false, false, true, true, true, true, false] ⟨#[.pointer (some ⟨p, 0, none⟩), .pointer (some ⟨t, 0, none⟩), x2, x3, x4, x5, x6, x7, x8, x9, x10, x11, x12, x13, x14, x15, x16, x17, x18, x19, x20, x21, x22, x23, x24, x25, x26, x27, x28, x29, .pointer (some ⟨p, 0, none⟩), .pointer (some ⟨p, 0, none⟩), undef, undef, .pointer (some ⟨t, 0, none⟩), .pointer (some ⟨t, 0, none⟩), .pointer (some ⟨t, 1, none⟩), .int .i64 i], []⟩ w := by
    refine anyArr_succ [2] (by kernel_rfl) (by simp) fun j hj t' => ?_
    obtain rfl : j = 2 := by simpa using hj
    refine arr_value (o := eo2) (v := .pointer (some ⟨p, 0, none⟩)) (w' := w) rfl rfl (er2 rfl) ?_
    exact n34 t'
  have n33 : AnyArr Try.prog e5ops Q 3 #[true, true, true, false, true, true, true, false, false] ⟨#[.pointer (some ⟨p, 0, none⟩), .pointer (some ⟨t, 0, none⟩), x2, x3, x4, x5, x6, x7, x8, x9, x10, x11, x12, x13, x14, x15, x16, x17, x18, x19, x20, x21, x22, x23, x24, x25, x26, x27, x28, x29, .pointer (some ⟨p, 0, none⟩), .pointer (some ⟨p, 0, none⟩), .pointer (some ⟨p, 0, none⟩), undef, .pointer (some ⟨t, 0, none⟩), .pointer (some ⟨t, 0, none⟩), .pointer (some ⟨t, 1, none⟩), undef], []⟩ w := by
    refine anyArr_succ [3, 7] (by kernel_rfl) (by simp) fun j hj t' => ?_
    rcases (show j = 3 ∨ j = 7 by simpa using hj) with rfl | rfl
    · refine arr_value (o := eo3) (v := .chan (some c)) (w' := w) rfl rfl (er3 rfl h0) ?_
      exact n43 t'
    · refine arr_value (o := eo7) (v := .int .i64 i) (w' := w) rfl rfl (er7 rfl g1) ?_
      exact n34 t'
  have n42 : AnyArr Try.prog e5ops Q 3 #[true, true, true, true, true, true, false, false, false] ⟨#[.pointer (some ⟨p, 0, none⟩), .pointer (some ⟨t, 0, none⟩), x2, x3, x4, x5, x6, x7, x8, x9, x10, x11, x12, x13, x14, x15, x16, x17, x18, x19, x20, x21, x22, x23, x24, x25, x26, x27, x28, x29, .pointer (some ⟨p, 0, none⟩), .pointer (some ⟨p, 0, none⟩), .pointer (some ⟨p, 0, none⟩), .chan (some c), .pointer (some ⟨t, 0, none⟩), .pointer (some ⟨t, 0, none⟩), undef, undef], []⟩ w := by
    refine anyArr_succ [6] (by kernel_rfl) (by simp) fun j hj t' => ?_
    obtain rfl : j = 6 := by simpa using hj
    refine arr_value (o := eo6) (v := .pointer (some ⟨t, 1, none⟩)) (w' := w) rfl rfl (er6 rfl) ?_
    exact n43 t'
  have n14 : AnyArr Try.prog e5ops Q 4 #[true, false, false, false, true, true, true, true, false] ⟨#[.pointer (some ⟨p, 0, none⟩), .pointer (some ⟨t, 0, none⟩), x2, x3, x4, x5, x6, x7, x8, x9, x10, x11, x12, x13, x14, x15, x16, x17, x18, x19, x20, x21, x22, x23, x24, x25, x26, x27, x28, x29, .pointer (some ⟨p, 0, none⟩), undef, undef, undef, .pointer (some ⟨t, 0, none⟩), .pointer (some ⟨t, 0, none⟩), .pointer (some ⟨t, 1, none⟩), .int .i64 i], []⟩ w := by
    refine anyArr_succ [1] (by kernel_rfl) (by simp) fun j hj t' => ?_
    obtain rfl : j = 1 := by simpa using hj
    refine arr_value (o := eo1) (v := .pointer (some ⟨p, 0, none⟩)) (w' := w) rfl rfl (er1 rfl) ?_
    exact n24 t'
  have n23 : AnyArr Try.prog e5ops Q 4 #[true, true, false, false, true, true, true, false, false] ⟨#[.pointer (some ⟨p, 0, none⟩), .pointer (some ⟨t, 0, none⟩), x2, x3, x4, x5, x6, x7, x8, x9, x10, x11, x12, x13, x14, x15, x16, x17, x18, x19, x20, x21, x22, x23, x24, x25, x26, x27, x28, x29, .pointer (some ⟨p, 0, none⟩), .pointer (some ⟨p, 0, none⟩), undef, undef, .pointer (some ⟨t, 0, none⟩), .pointer (some ⟨t, 0, none⟩), .pointer (some ⟨t, 1, none⟩), undef], []⟩ w := by
    refine anyArr_succ [2, 7] (by kernel_rfl) (by simp) fun j hj t' => ?_
    rcases (show j = 2 ∨ j = 7 by simpa using hj) with rfl | rfl
    · refine arr_value (o := eo2) (v := .pointer (some ⟨p, 0, none⟩)) (w' := w) rfl rfl (er2 rfl) ?_
      exact n33 t'
    · refine arr_value (o := eo7) (v := .int .i64 i) (w' := w) rfl rfl (er7 rfl g1) ?_
      exact n24 t'
  have n32 : AnyArr Try.prog e5ops Q 4 #[true, true, true, false, true, true, false, false, false] ⟨#[.pointer (some ⟨p, 0, none⟩), .pointer (some ⟨t, 0, none⟩), x2, x3, x4, x5, x6, x7, x8, x9, x10, x11, x12, x13, x14, x15, x16, x17, x18, x19, x20, x21, x22, x23, x24, x25, x26, x27, x28, x29, .pointer (some ⟨p, 0, none⟩), .pointer (some ⟨p, 0, none⟩), .pointer (some ⟨p, 0, none⟩), undef, .pointer (some ⟨t, 0, none⟩), .pointer (some ⟨t, 0, none⟩), undef, undef], []⟩ w := by
    refine anyArr_succ [3, 6] (by kernel_rfl) (by simp) fun j hj t' => ?_
    rcases (show j = 3 ∨ j = 6 by simpa using hj) with rfl | rfl
    · refine arr_value (o := eo3) (v := .chan (some c)) (w' := w) rfl rfl (er3 rfl h0) ?_
      exact n42 t'
    · refine arr_value (o := eo6) (v := .pointer (some ⟨t, 1, none⟩)) (w' := w) rfl rfl (er6 rfl) ?_
      exact n33 t'
  have n41 : AnyArr Try.prog e5ops Q 4 #[true, true, true, true, true, false, false, false, false] ⟨#[.pointer (some ⟨p, 0, none⟩), .pointer (some ⟨t, 0, none⟩), x2, x3, x4, x5, x6, x7, x8, x9, x10, x11, x12, x13, x14, x15, x16, x17, x18, x19, x20, x21, x22, x23, x24, x25, x26, x27, x28, x29, .pointer (some ⟨p, 0, none⟩), .pointer (some ⟨p, 0, none⟩), .pointer (some ⟨p, 0, none⟩), .chan (some c), .pointer (some ⟨t, 0, none⟩), undef, undef, undef], []⟩ w := by
    refine anyArr_succ [5] (by kernel_rfl) (by simp) fun j hj t' => ?_
    obtain rfl : j = 5 := by simpa using hj
    refine arr_value (o := eo5) (v := .pointer (some ⟨t, 0, none⟩)) (w' := w) rfl rfl (er5 rfl) ?_
    exact n42 t'
  have n04 : AnyArr Try.prog e5ops Q 5 #[false, false, false, false, true, true, true, true, false] ⟨#[.pointer (some ⟨p, 0, none⟩), .pointer (some ⟨t, 0, none⟩), x2, x3, x4, x5, x6, x7, x8, x9, x10, x11, x12, x13, x14, x15, x16, x17, x18, x19, x20, x21, x22, x23, x24, x25, x26, x27, x28, x29, undef, undef, undef, undef, .pointer (some ⟨t, 0, none⟩), .pointer (some ⟨t, 0, none⟩), .pointer (some ⟨t, 1, none⟩), .int .i64 i], []⟩ w := by
    refine anyArr_succ [0] (by kernel_rfl) (by simp) fun j hj t' => ?_
    obtain rfl : j = 0 := by simpa using hj
    refine arr_value (o := eo0) (v := .pointer (some ⟨p, 0, none⟩)) (w' := w) rfl rfl (er0 rfl) ?_
    exact n14 t'
  have n13 : AnyArr Try.prog e5ops Q 5 #[true, false, false, false, true, true, true, false, false] ⟨#[.pointer (some ⟨p, 0, none⟩), .pointer (some ⟨t, 0, none⟩), x2, x3, x4, x5, x6, x7, x8, x9, x10, x11, x12, x13, x14, x15, x16, x17, x18, x19, x20, x21, x22, x23, x24, x25, x26, x27, x28, x29, .pointer (some ⟨p, 0, none⟩), undef, undef, undef, .pointer (some ⟨t, 0, none⟩), .pointer (some ⟨t, 0, none⟩), .pointer (some ⟨t, 1, none⟩), undef], []⟩ w := by
    refine anyArr_succ [1, 7] (by kernel_rfl) (by simp) fun j hj t' => ?_
    rcases (show j = 1 ∨ j = 7 by simpa using hj) with rfl | rfl
    · refine arr_value (o := eo1) (v := .pointer (some ⟨p, 0, none⟩)) (w' := w) rfl rfl (er1 rfl) ?_
      exact n23 t'
    · refine arr_value (o := eo7) (v := .int .i64 i) (w' := w) rfl rfl (er7 rfl g1) ?_
      exact n14 t'
  have n22 : AnyArr Try.prog e5ops Q 5 #[true, true, false, false, true, true, false, false, false] ⟨#[.pointer (some ⟨p, 0, none⟩), .pointer (some ⟨t, 0, none⟩), x2, x3, x4, x5, x6, x7, x8, x9, x10, x11, x12, x13, x14, x15, x16, x17, x18, x19, x20, x21, x22, x23, x24, x25, x26, x27, x28, x29, .pointer (some ⟨p, 0, none⟩), .pointer (some ⟨p, 0, none⟩), undef, undef, .pointer (some ⟨t, 0, none⟩), .pointer (some ⟨t, 0, none⟩), undef, undef], []⟩ w := by
    refine anyArr_succ [2, 6] (by kernel_rfl) (by simp) fun j hj t' => ?_
    rcases (show j = 2 ∨ j = 6 by simpa using hj) with rfl | rfl
    · refine arr_value (o := eo2) (v := .pointer (some ⟨p, 0, none⟩)) (w' := w) rfl rfl (er2 rfl) ?_
      exact n32 t'
    · refine arr_value (o := eo6) (v := .pointer (some ⟨t, 1, none⟩)) (w' := w) rfl rfl (er6 rfl) ?_
      exact n23 t'
  have n31 : AnyArr Try.prog e5ops Q 5 #[true, true, true, false, true, false, false, false, false] ⟨#[.pointer (some ⟨p, 0, none⟩), .pointer (some ⟨t, 0, none⟩), x2, x3, x4, x5, x6, x7, x8, x9, x10, x11, x12, x13, x14, x15, x16, x17, x18, x19, x20, x21, x22, x23, x24, x25, x26, x27, x28, x29, .pointer (some ⟨p, 0, none⟩), .pointer (some ⟨p, 0, none⟩), .pointer (some ⟨p, 0, none⟩), undef, .pointer (some ⟨t, 0, none⟩), undef, undef, undef], []⟩ w := by
    refine anyArr_succ [3, 5] (by kernel_rfl) (by simp) fun j hj t' => ?_
    rcases (show j = 3 ∨ j = 5 by simpa using hj) with rfl | rfl
    · refine arr_value (o := eo3) (v := .chan (some c)) (w' := w) rfl rfl (er3 rfl h0) ?_
      exact n41 t'
    · refine arr_value (o := eo5) (v := .pointer (some ⟨t, 0, none⟩)) (w' := w) rfl rfl (er5 rfl) ?_
      exact n32 t'
  have n40 : AnyArr Try.prog e5ops Q 5 #[true, true, true, true, false, false, false, false, false] ⟨#[.pointer (some ⟨p, 0, none⟩), .pointer (some ⟨t, 0, none⟩), x2, x3, x4, x5, x6, x7, x8, x9, x10, x11, x12, x13, x14, x15, x16, x17, x18, x19, x20, x21, x22, x23, x24, x25, x26, x27, x28, x29, .pointer (some ⟨p, 0, none⟩), .pointer (some ⟨p, 0, none⟩), .pointer (some ⟨p, 0, none⟩), .chan (some c), undef, undef, undef, undef], []⟩ w := by
    refine anyArr_succ [4] (by kernel_rfl) (by simp) fun j hj t' => ?_
    obtain rfl : j = 4 := by simpa using hj
    refine arr_value (o := eo4) (v := .pointer (some ⟨t, 0, none⟩)) (w' := w) rfl rfl (er4 rfl) ?_
    exact n41 t'
  have n03 : AnyArr Try.prog e5ops Q 6 #[false, false, false, false, true, true, true, false, false] ⟨#[.pointer (some ⟨p, 0, none⟩), .pointer (some ⟨t, 0, none⟩), x2, x3, x4, x5, x6, x7, x8, x9, x10, x11, x12, x13, x14, x15, x16, x17, x18, x19, x20, x21, x22, x23, x24, x25, x26, x27, x28, x29, undef, undef, undef, undef, .pointer (some ⟨t, 0, none⟩), .pointer (some ⟨t, 0, none⟩), .pointer (some ⟨t, 1, none⟩), undef], []⟩ w := by
    refine anyArr_succ [0, 7] (by kernel_rfl) (by simp) fun j hj t' => ?_
    rcases (show j = 0 ∨ j = 7 by simpa using hj) with rfl | rfl
    · refine arr_value (o := eo0) (v := .pointer (some ⟨p, 0, none⟩)) (w' := w) rfl rfl (er0 rfl) ?_
      exact n13 t'
    · refine arr_value (o := eo7) (v := .int .i64 i) (w' := w) rfl rfl (er7 rfl g1) ?_
      exact n04 t'
  have n12 : AnyArr Try.prog e5ops Q 6 #[true, false, false, false, true, true, false, false, false] ⟨#[.pointer (some ⟨p, 0, none⟩), .pointer (some ⟨t, 0, none⟩), x2, x3, x4, x5, x6, x7, x8, x9, x10, x11, x12, x13, x14, x15, x16, x17, x18, x19, x20, x21, x22, x23, x24, x25, x26, x27, x28, x29, .pointer (some ⟨p, 0, none⟩), undef, undef, undef, .pointer (some ⟨t, 0, none⟩), .pointer (some ⟨t, 0, none⟩), undef, undef], []⟩ w := by
    refine anyArr_succ [1, 6] (by kernel_rfl) (by simp) fun j hj t' => ?_
    rcases (show j = 1 ∨ j = 6 by simpa using hj) with rfl | rfl
    · refine arr_value (o := eo1) (v := .pointer (some ⟨p, 0, none⟩)) (w' := w) rfl rfl (er1 rfl) ?_
      exact n22 t'
    · refine arr_value (o := eo6) (v := .pointer (some ⟨t, 1, none⟩)) (w' := w) rfl rfl (er6 rfl) ?_
      exact n13 t'
  have n21 : AnyArr Try.prog e5ops Q 6 #[true, true, false, false, true, false, false, false, false] ⟨#[.pointer (some ⟨p, 0, none⟩), .pointer (some ⟨t, 0, none⟩), x2, x3, x4, x5, x6, x7, x8, x9, x10, x11, x12, x13, x14, x15, x16, x17, x18, x19, x20, x21, x22, x23, x24, x25, x26, x27, x28, x29, .pointer (some ⟨p, 0, none⟩), .pointer (some ⟨p, 0, none⟩), undef, undef, .pointer (some ⟨t, 0, none⟩), undef, undef, undef], []⟩ w := by
    refine anyArr_succ [2, 5] (by kernel_rfl) (by simp) fun j hj t' => ?_
    rcases (show j = 2 ∨ j = 5 by simpa using hj) with rfl | rfl
    · refine arr_value (o := eo2) (v := .pointer (some ⟨p, 0, none⟩)) (w' := w) rfl rfl (er2 rfl) ?_
      exact n31 t'
    · refine arr_value (o := eo5) (v := .pointer (some ⟨t, 0, none⟩)) (w' := w) rfl rfl (er5 rfl) ?_
      exact n22 t'
  have n30 : AnyArr Try.prog e5ops Q 6 #[true, true, true, false, false, false, false, false, false] ⟨#[.pointer (some ⟨p, 0, none⟩), .pointer (some ⟨t, 0, none⟩), x2, x3, x4, x5, x6, x7, x8, x9, x10, x11, x12, x13, x14, x15, x16, x17, x18, x19, x20, x21, x22, x23, x24, x25, x26, x27, x28, x29, .pointer (some ⟨p, 0, none⟩), .pointer (some ⟨p, 0, none⟩), .pointer (some ⟨p, 0, none⟩), undef, undef, undef, undef, undef], []⟩ w := by
    refine anyArr_succ [3, 4] (by kernel_rfl) (by simp) fun j hj t' => ?_
    rcases (show j = 3 ∨ j = 4 by simpa using hj) with rfl | rfl
    · refine arr_value (o := eo3) (v := .chan (some c)) (w' := w) rfl rfl (er3 rfl h0) ?_
      exact n40 t'
    · refine arr_value (o := eo4) (v := .pointer (some ⟨t, 0, none⟩)) (w' := w) rfl rfl (er4 rfl) ?_
      exact n31 t'
  have n02 : AnyArr Try.prog e5ops Q 7 #[false, false, false, false, true, true, false, false, false] ⟨#[.pointer (some ⟨p, 0, none⟩), .pointer (some ⟨t, 0, none⟩), x2, x3, x4, x5, x6, x7, x8, x9, x10, x11, x12, x13, x14, x15, x16, x17, x18, x19, x20, x21, x22, x23, x24, x25, x26, x27, x28, x29, undef, undef, undef, undef, .pointer (some ⟨t, 0, none⟩), .pointer (some ⟨t, 0, none⟩), undef, undef], []⟩ w := by
    refine anyArr_succ [0, 6] (by kernel_rfl) (by simp) fun j hj t' => ?_
    rcases (show j = 0 ∨ j = 6 by simpa using hj) with rfl | rfl
    · refine arr_value (o := eo0) (v := .pointer (some ⟨p, 0, none⟩)) (w' := w) rfl rfl (er0 rfl) ?_
      exact n12 t'
    · refine arr_value (o := eo6) (v := .pointer (some ⟨t, 1, none⟩)) (w' := w) rfl rfl (er6 rfl) ?_
      exact n03 t'
  have n11 : AnyArr Try.prog e5ops Q 7 #[true, false, false, false, true, false, false, false, false] ⟨#[.pointer (some ⟨p, 0, none⟩), .pointer (some ⟨t, 0, none⟩), x2, x3, x4, x5, x6, x7, x8, x9, x10, x11, x12, x13, x14, x15, x16, x17, x18, x19, x20, x21, x22, x23, x24, x25, x26, x27, x28, x29, .pointer (some ⟨p, 0, none⟩), undef, undef, undef, .pointer (some ⟨t, 0, none⟩), undef, undef, undef], []⟩ w := by
    refine anyArr_succ [1, 5] (by kernel_rfl) (by simp) fun j hj t' => ?_
    rcases (show j = 1 ∨ j = 5 by simpa using hj) with rfl | rfl
    · refine arr_value (o := eo1) (v := .pointer (some ⟨p, 0, none⟩)) (w' := w) rfl rfl (er1 rfl) ?_
      exact n21 t'
    · refine arr_value (o := eo5) (v := .pointer (some ⟨t, 0, none⟩)) (w' := w) rfl rfl (er5 rfl) ?_
      exact n12 t'
  have n20 : AnyArr Try.prog e5ops Q 7 #[true, true, false, false, false, false, false, false, false] ⟨#[.pointer (some ⟨p, 0, none⟩), .pointer (some ⟨t, 0, none⟩), x2, x3, x4, x5, x6, x7, x8, x9, x10, x11, x12, x13, x14, x15, x16, x17, x18, x19, x20, x21, x22, x23, x24, x25, x26, x27, x28, x29, .pointer (some ⟨p, 0, none⟩), .pointer (some ⟨p, 0, none⟩), undef, undef, undef, undef, undef, undef], []⟩ w := by
    refine anyArr_succ [2, 4] (by kernel_rfl) (by simp) fun j hj t' => ?_
    rcases (show j = 2 ∨ j = 4 by simpa using hj) with rfl | rfl
    · refine arr_value (o := eo2) (v := .pointer (some ⟨p, 0, none⟩)) (w' := w) rfl rfl (er2 rfl) ?_
      exact n30 t'
    · refine arr_value (o := eo4) (v := .pointer (some ⟨t, 0, none⟩)) (w' := w) rfl rfl (er4 rfl) ?_
      exact n21 t'
  have n01 : AnyArr Try.prog e5ops Q 8 #[false, false, false, false, true, false, false, false, false] ⟨#[.pointer (some ⟨p, 0, none⟩), .pointer (some ⟨t, 0, none⟩), x2, x3, x4, x5, x6, x7, x8, x9, x10, x11, x12, x13, x14, x15, x16, x17, x18, x19, x20, x21, x22, x23, x24, x25, x26, x27, x28, x29, undef, undef, undef, undef, .pointer (some ⟨t, 0, none⟩), undef, undef, undef], []⟩ w := by
    refine anyArr_succ [0, 5] (by kernel_rfl) (by simp) fun j hj t' => ?_
    rcases (show j = 0 ∨ j = 5 by simpa using hj) with rfl | rfl
    · refine arr_value (o := eo0) (v := .pointer (some ⟨p, 0, none⟩)) (w' := w) rfl rfl (er0 rfl) ?_
      exact n11 t'
    · refine arr_value (o := eo5) (v := .pointer (some ⟨t, 0, none⟩)) (w' := w) rfl rfl (er5 rfl) ?_
      exact n02 t'
  have n10 : AnyArr Try.prog e5ops Q 8 #[true, false, false, false, false, false, false, false, false] ⟨#[.pointer (some ⟨p, 0, none⟩), .pointer (some ⟨t, 0, none⟩), x2, x3, x4, x5, x6, x7, x8, x9, x10, x11, x12, x13, x14, x15, x16, x17, x18, x19, x20, x21, x22, x23, x24, x25, x26, x27, x28, x29, .pointer (some ⟨p, 0, none⟩), undef, undef, undef, undef, undef, undef, undef], []⟩ w := by
    refine anyArr_succ [1, 4] (by kernel_rfl) (by simp) fun j hj t' => ?_
    rcases (show j = 1 ∨ j = 4 by simpa using hj) with rfl | rfl
    · refine arr_value (o := eo1) (v := .pointer (some ⟨p, 0, none⟩)) (w' := w) rfl rfl (er1 rfl) ?_
      exact n20 t'
    · refine arr_value (o := eo4) (v := .pointer (some ⟨t, 0, none⟩)) (w' := w) rfl rfl (er4 rfl) ?_
      exact n11 t'
  have n00 : AnyArr Try.prog e5ops Q 9 #[false, false, false, false, false, false, false, false, false] ⟨#[.pointer (some ⟨p, 0, none⟩), .pointer (some ⟨t, 0, none⟩), x2, x3, x4, x5, x6, x7, x8, x9, x10, x11, x12, x13, x14, x15, x16, x17, x18, x19, x20, x21, x22, x23, x24, x25, x26, x27, x28, x29, undef, undef, undef, undef, undef, undef, undef, undef], []⟩ w := by
    refine anyArr_succ [0, 4] (by kernel_rfl) (by simp) fun j hj t' => ?_
    rcases (show j = 0 ∨ j = 4 by simpa using hj) with rfl | rfl
    · refine arr_value (o := eo0) (v := .pointer (some ⟨p, 0, none⟩)) (w' := w) rfl rfl (er0 rfl) ?_
      exact n10 t'
    · refine arr_value (o := eo4) (v := .pointer (some ⟨t, 0, none⟩)) (w' := w) rfl rfl (er4 rfl) ?_
      exact n01 t'
  exact n00

set_option maxRecDepth 100000 in
set_option maxHeartbeats 1000000 in
theorem end_ok (p c k : Nat) (out : Int) (q : List Nat) (t i : Nat) (w : World) (h : Pool w p c k out q) (hT : Tok w t p i true) (hq : q.length < k) (ho : 0 < out ∧ out < 10000) :
    Calls Try.prog 34 #[at0 p, at0 t] w fun e w' => e = .returned (.int .i64 0) ∧ Pool w' p c k (out - 1) (q ++ [i]) ∧ Tok w' t p i false ∧ w'.heap.size = w.heap.size ∧ Keep [p, c, t] w w' := by
  have hl := h.lt
  have hne := hT.ne h
  obtain ⟨h, s, r, hc⟩ := h
  obtain ⟨⟨h0, h1, h2⟩, f0, f1, f2⟩ := tok3 h
  have HT := Lib.hid hT
  obtain ⟨⟨g0, g1, g2⟩, e0, e1, e2⟩ := tok3 hT
  have hsub : IntKind.i64.wrap (out - 1) = out - 1 := IntWalk.i64_in _ (by omega)
  have hpt : ¬ (p = t) := fun e => hne.1 e.symm
  have hpp := neq_pool_same ⟨p, 0, none⟩
  clear hT
  unfold at0 at *
  refine calls_of_wpN Try.func34 rfl ?_
  simp only [Try.ntmps34, List.size_toArray, List.length_cons, List.length_nil, Nat.reduceAdd, Nat.reduceSub, Array.replicate_succ, Array.replicate_zero, List.push_toArray, List.append_toArray, List.nil_append, List.cons_append]
  refine wpN_seq' ?_
  go_wp2
  refine wpN_seq' ?_
  go_wp2_with (go_at_call 65; refine (live_any t p i true _ HT.out).mono ?_; rintro e w' ⟨rfl, rfl⟩)
  refine wpN_seq' ?_
  go_wp2
  have B1 := Blk.set_ HT.out 2 (.bool false)
  have P1 := Blk.far h (p := ⟨t, 2, none⟩) hpt (.bool false)
  have C1 := (Below.heap_setCell w ⟨t, 2, none⟩ (.bool false) c (Ne.symm hne.2)).trans hc
  have K1 : Keep [p, c, t] w (w.setCell ⟨t, 2, none⟩ (.bool false)) := (Keep.refl _ w).setCell (by simp) _
  have S1 : (w.setCell ⟨t, 2, none⟩ (.bool false)).heap.size = w.heap.size := by simp
  generalize w.setCell ⟨t, 2, none⟩ (.bool false) = W at *
  clear h0 h1 h2 f0 f1 f2 g0 g1 g2 e0 e1 e2
  obtain ⟨⟨h0, h1, h2⟩, f0, f1, f2⟩ := tok3 P1
  have HB := Lib.hid B1
  have HS := Lib.hid S1
  have HC := Lib.hid C1
  clear S1 B1 C1 hc
  refine wpN_seq' ?_
  go_wp2
  have P2 := Blk.set_ P1 2 (.int .i64 (out - 1))
  have B2 := Blk.far HB.out (p := ⟨p, 2, none⟩) (fun e => hpt e.symm) (.int .i64 (out - 1))
  have C2 := (Below.heap_setCell W ⟨p, 2, none⟩ (.int .i64 (out - 1)) c (Ne.symm hl.2.2)).trans HC.out
  have K2 := K1.setCell (p := ⟨p, 2, none⟩) (by simp) (.int .i64 (out - 1))
  have S2 : (W.setCell ⟨p, 2, none⟩ (.int .i64 (out - 1))).heap.size = w.heap.size := by simp [HS.out]
  generalize W.setCell ⟨p, 2, none⟩ (.int .i64 (out - 1)) = V at *
  have P3 : Blk V.drew p 110 _ := P2
  have B3 : Blk V.drew t 112 _ := B2
  obtain ⟨⟨h0', h1', h2'⟩, -⟩ := tok3 P3
  obtain ⟨⟨g0', g1', g2'⟩, -⟩ := tok3 B3
  refine wpN_seq (wpN_region_draw (by kernel_rfl) ?_)
  refine e5_any p c k t i s r q V.drew _ _ _ _ _ _ _ _ _ _ _ _ _ _ _ _ _ _ _ _ _ _ _ _ _ _ _ _ h0' g1' C2 hq ?_
  simp only [Exit.then]
  refine wpN_of_wp ?_
  go_wp2
  go_ret
  have hsz : V.drew.heap.size = w.heap.size := S2
  refine ⟨rfl, ⟨?_, s + 1, r, ?_⟩, ?_, ?_, ?_⟩
  · exact Blk.chan P3 hl.2.2 _ _ _ _ _ _
  · exact heap_setChan _ _ _ _ _ _ _ _ (by rw [hsz]; exact hl.2.1)
  · exact Blk.chan B3 hne.2 _ _ _ _ _ _
  · rw [size_setChan]; exact hsz
  · exact (K2.trans (Keep.of_below ((Below.refl _ V).drew))).setChan (by simp) _ _ _ _ _ _

set_option maxHeartbeats 1000000 in
theorem end_dead (p c k : Nat) (out : Int) (q : List Nat) (t p' i : Nat) (w : World) (hT : Tok w t p' i false) :
    Calls Try.prog 34 #[at0 p, at0 t] w fun e w' => e = .returned (.int .i64 4) ∧ w = w' := by
  unfold at0 at *
  refine calls_of_wpN Try.func34 rfl ?_
  simp only [Try.ntmps34, List.size_toArray, List.length_cons, List.length_nil, Nat.reduceAdd, Nat.reduceSub, Array.replicate_succ, Array.replicate_zero, List.push_toArray, List.append_toArray, List.nil_append, List.cons_append]
  refine wpN_seq' ?_
  go_wp2
  refine wpN_seq' ?_
  go_wp2_with (go_at_call 65; refine (live_any t p' i false _ hT).mono ?_; rintro e w' ⟨rfl, rfl⟩)
  go_ret
  exact ⟨rfl, rfl⟩
set_option maxHeartbeats 1000000 in
theorem end_other (p c k : Nat) (out : Int) (q : List Nat) (t p' i : Nat) (w : World) {c' k' : Nat} {out' : Int} {q' : List Nat} (hne : p' ≠ p) (h : Pool w p c k out q) (h' : Pool w p' c' k' out' q') (hT : Tok w t p' i true) :
    Calls Try.prog 34 #[at0 p, at0 t] w fun e w' => e = .returned (.int .i64 4) ∧ w = w' := by
  have hpp := neq_pool_other w hne h'.1 h.1
  have HT := Lib.hid hT
  obtain ⟨⟨g0, g1, g2⟩, e0, e1, e2⟩ := tok3 hT
  clear hT h h'
  unfold at0 at *
  refine calls_of_wpN Try.func34 rfl ?_
  simp only [Try.ntmps34, List.size_toArray, List.length_cons, List.length_nil, Nat.reduceAdd, Nat.reduceSub, Array.replicate_succ, Array.replicate_zero, List.push_toArray, List.append_toArray, List.nil_append, List.cons_append]
  refine wpN_seq' ?_
  go_wp2
  refine wpN_seq' ?_
  go_wp2_with (go_at_call 65; refine (live_any t p' i true _ HT.out).mono ?_; rintro e w' ⟨rfl, rfl⟩)
  go_ret
  exact ⟨rfl, rfl⟩
set_option maxHeartbeats 1000000 in
theorem end_nilTok (p : Nat) (w : World) : Calls Try.prog 34 #[at0 p, .pointer none] w fun e w' => e = .returned (.int .i64 4) ∧ w = w' := by
  unfold at0 at *
  refine calls_of_wpN Try.func34 rfl ?_
  simp only [Try.ntmps34, List.size_toArray, List.length_cons, List.length_nil, Nat.reduceAdd, Nat.reduceSub, Array.replicate_succ, Array.replicate_zero, List.push_toArray, List.append_toArray, List.nil_append, List.cons_append]
  refine wpN_seq' ?_
  go_wp2
  refine wpN_seq' ?_
  go_wp2_with (go_at_call 65; refine (live_nil _).mono ?_; rintro e w' ⟨rfl, rfl⟩)
  go_ret
  exact ⟨rfl, rfl⟩
set_option maxHeartbeats 1000000 in
theorem end_nilPool (v : Value) (w : World) : Calls Try.prog 34 #[.pointer none, v] w fun e w' => e = .returned (.int .i64 4) ∧ w = w' := by
  refine calls_of_wpN Try.func34 rfl ?_
  simp only [Try.ntmps34, List.size_toArray, List.length_cons, List.length_nil, Nat.reduceAdd, Nat.reduceSub, Array.replicate_succ, Array.replicate_zero, List.push_toArray, List.append_toArray, List.nil_append, List.cons_append]
  refine wpN_seq' ?_
  go_wp2
  refine wpN_seq' ?_
  go_wp2
  go_ret
  exact ⟨rfl, rfl⟩
end Go.Proofs.Ytgldgdpgbfejmaa
