/- slices.Backward of stops: its contract. -/
import Derived.Test.YtimhdegdmdilaaaHas
import Derived.RegionIn
import Derived.RangeFuncWrites
import Derived.OrdersIn
import Derived.RangeFuncCalls
import Derived.Laws.ResultCell
import Derived.Test.YtimhdegdmdilaaaHap
import Derived.Test.YtimhdegdmdilaaaHad
namespace Go.Proofs.Ytimhdegdmdilaaa
open Go.RowKit Go.Lib
instance : Inhabited StC := ⟨⟨⟨.node [] none [], [], []⟩, 0, ⟨#[]⟩, undef, undef⟩⟩
def StC.val (c : StC) : Value := .agg #[at0 c.b, .string c.key, c.vl, c.vm]
namespace Its
open Go.Shelf
set_option linter.unusedVariables false
set_option linter.unnecessarySimpa false
set_option linter.unusedSimpArgs false
set_option linter.unnecessarySimpa false
set_option maxRecDepth 100000
attribute [local go_sem] Oper.semAt_some

variable {α : Type}
/-- what has come behind k rounds, from the last stop on -/
def upB (bs : List α) (k : Nat) : List (Nat × α) := (List.range k).filterMap fun j => (bs[bs.length - 1 - j]?).map fun c => (bs.length - 1 - j, c)
theorem upB_succ (bs : List α) (k : Nat) (h : bs.length - 1 - k < bs.length) : upB bs (k + 1) = upB bs k ++ [(bs.length - 1 - k, bs[bs.length - 1 - k]'h)] := by
  unfold upB
  rw [List.range_succ, List.filterMap_append]
  simp [List.getElem?_eq_getElem h]
theorem upB_length (bs : List α) : ∀ (k : Nat), k ≤ bs.length → (upB bs k).length = k
  | 0, _ => rfl
  | k + 1, h => by rw [upB_succ bs k (by omega), List.length_append, upB_length bs k (by omega)]; rfl
theorem upB_take (bs : List α) : ∀ (k : Nat), k ≤ bs.length → (upB bs k).map (·.2) = bs.reverse.take k
  | 0, _ => by simp [upB]
  | k + 1, h => by
    rw [upB_succ bs k (by omega), List.map_append, upB_take bs k (by omega), List.take_add_one, List.getElem?_eq_getElem (by simp; omega)]
    simp [List.getElem_reverse]
theorem upB_all (bs : List α) : (upB bs bs.length).map (·.2) = bs.reverse := by
  rw [upB_take bs _ (Nat.le_refl _), List.take_of_length_le (by simp)]
/-- what a round must keep -/
def KpK (n₀ Bs : Nat) (W W' : World) : Prop := Below n₀ W W' ∧ KpB Bs W W'
theorem KpK_t {n₀ B : Nat} {X Y Z : World} (h : KpK n₀ B X Y) (k : KpK n₀ B Y Z) : KpK n₀ B X Z := ⟨h.1.trans k.1, KpB_t h.2 k.2⟩
theorem KpK_b {n₀ B : Nat} {w : World} (hn : n₀ ≤ w.heap.size) (hB : B < w.heap.size) (W : World) (l : Nat) (o o' : Obj) (hl : w.heap.size ≤ l) (h : W.heap[l]? = some o) (h1 : o.isCells = false) (h2 : o.isWalk = false) : KpK n₀ B W (W.putObj l o') :=
  ⟨belowK_b hn W l o o' hl h h1 h2, KpB_b hB W l o o' hl h h1 h2⟩
set_option maxHeartbeats 1000000 in
theorem back1_in (n l Bs n₀ b cap : Nat) (f : α → StC) (bs : List α) (hb : b < n₀) (hl : bs.length ≤ 1000000) (J Jx : List (Nat × α) → World → Prop)
    (hY : ∀ pre (x : Nat × α) W, J pre W → pre.length < bs.length → YieldAt Fence.wide (n - 1) Try.prog l #[.int .i64 x.1, (f x.2).val] W fun e W' =>
      (e = .returned (.bool true) ∧ J (pre ++ [x]) W' ∧ KpK n₀ Bs W W') ∨ (e = .returned (.bool false) ∧ Jx (pre ++ [x]) W'))
    (hn : 1 ≤ n) (W : World) (hBs : CBlk W Bs 85 #[.slice (some ⟨b, 0, none⟩) bs.length cap]) (hc : ∀ (j : Nat) (h : j < bs.length), ∀ i, i < 4 → W.cell? ⟨b, j * 4 + i, none⟩ = (f bs[j]).cells[i]?) (h0 : J [] W) :
    CallsIn Fence.wide n Try.prog 89 #[.func (.yield l) #[] #[], .pointer (some ⟨Bs, 0, none⟩)] W fun e W' => (∃ v, e = .returned v) ∧
      ((∃ ys, ys = upB bs bs.length ∧ J ys W') ∨ (∃ pre, (∃ k, k ≤ bs.length ∧ pre = upB bs k) ∧ Jx pre W')) := by
  have hc0 := hBs.cell 0
  obtain ⟨N, hN⟩ : ∃ N, N = bs.length := ⟨_, rfl⟩
  have HN := Lib.hid hN
  have HC := Lib.hid hc
  clear hc
  rw [← hN] at hBs hl hY hc0 ⊢
  have hN1 : IntKind.i64.wrap ((N : Int) - 1) = (N : Int) - 1 := IntWalk.i64_in _ (by omega)
  refine callsIn_of_wp Try.func89 rfl trivial ?_ rfl
  simp only [Try.ntmps89, List.size_toArray, List.length_cons, List.length_nil, Nat.reduceAdd, Nat.reduceSub, Array.replicate_succ, Array.replicate_zero, List.push_toArray, List.append_toArray, List.nil_append, List.cons_append]
  clear hN
  gi_wp2
  gi_loopw [3] (fun i wr => ∃ k : Nat, k ≤ N ∧ i = .int .i64 ((N : Int) - 1 - k) ∧ J (upB bs k) wr ∧ KpK n₀ Bs W wr) (fun i wr => (intOf i + 1).toNat)
  case atStart => exact ⟨0, by omega, by simp [hN1], h0, Below.refl _ _, rfl⟩
  case round =>
    obtain ⟨k, hk, rfl, hJ, hK⟩ := hrel
    by_cases hlt : k < N
    · have hB : CBlk wr Bs 85 #[.slice (some ⟨b, 0, none⟩) N cap] := Eq.trans hK.2 hBs
      have c0 := hB.cell 0
      have hL : N - 1 - k < bs.length := by rw [← HN.out]; omega
      obtain ⟨xa, hxa⟩ : ∃ xa, xa = bs[N - 1 - k]'hL := ⟨_, rfl⟩
      have hxx := HC.out (N - 1 - k) hL
      have hup : upB bs (k + 1) = upB bs k ++ [(N - 1 - k, xa)] := by
        have := upB_succ bs k (by rw [← HN.out]; omega)
        rw [this, hxa]
        simp only [← HN.out]
      have hlen : (upB bs k).length < N := by rw [upB_length bs k (by rw [← HN.out]; omega)]; exact hlt
      rw [← hxa] at hxx
      have hx0 := (hK.1.cell (p := ⟨b, (N - 1 - k) * 4 + 0, none⟩) hb).trans (hxx 0 (by omega))
      have hx1 := (hK.1.cell (p := ⟨b, (N - 1 - k) * 4 + 1, none⟩) hb).trans (hxx 1 (by omega))
      have hx2 := (hK.1.cell (p := ⟨b, (N - 1 - k) * 4 + 2, none⟩) hb).trans (hxx 2 (by omega))
      have hx3 := (hK.1.cell (p := ⟨b, (N - 1 - k) * 4 + 3, none⟩) hb).trans (hxx 3 (by omega))
      obtain ⟨fn, tmps, assign, body, hy, hR⟩ := hY (upB bs k) (N - 1 - k, xa) wr hJ hlen
      have HU := Lib.hid hup
      clear hup hY hB hBs hc0 hxx hxa hlen hL
      have hge : (0 : Int) ≤ (N : Int) - 1 - k := by omega
      have hij : ((N - 1 - k : Nat) : Int) = (N : Int) - 1 - k := by omega
      obtain ⟨I, hI⟩ : ∃ I, I = N - 1 - k := ⟨_, rfl⟩
      rw [← hij] at hge ⊢
      rw [← hI] at hge hx0 hx1 hx2 hx3 hy ⊢
      have hIN : (I : Int) < N := by omega
      have hIN' : I < N := by omega
      have E2 : IntKind.i64.wrap ((I : Int) - 1) = (I : Int) - 1 := IntWalk.i64_in _ (by omega)
      have hIe : (I : Int) - 1 = (N : Int) - 1 - ((k + 1 : Nat) : Int) := by omega
      have HE := Lib.hid hIe
      have HI := Lib.hid hI
      clear hij hI hIe
      dsimp only at hy
      unfold StC.val at0 at hy
      generalize f xa = X at *
      obtain ⟨Xs, Xb, Xk, Xl, Xm⟩ := X
      simp only [StC.cells, at0, List.getElem?_cons_zero, List.getElem?_cons_succ, Nat.add_zero] at hx0 hx1 hx2 hx3
      gi_wp2
      refine hR.mono ?_
      rintro e W3 (⟨rfl, hJ3, hk3⟩ | ⟨rfl, hJx3⟩)
      · gi_wp2
        go_roundw
        case rel => exact ⟨k + 1, by omega, by rw [HE.out], by rw [HU.out]; exact hJ3, KpK_t hK hk3⟩
        case measure => simp [intOf]
      · gi_wp2
        refine bodyPost_ret (results_none rfl _ _ _) rfl ?_
        exact ⟨⟨_, rfl⟩, .inr ⟨_, ⟨k + 1, by omega, HU.out.symm⟩, hJx3⟩⟩
    · obtain rfl : k = N := by omega
      have hneg : ¬ ((0 : Int) ≤ (k : Int) - 1 - k) := by omega
      gi_wp2
      go_end0
      first
        | exact ⟨⟨_, rfl⟩, .inl hJ⟩
        | exact ⟨⟨_, rfl⟩, .inl ⟨_, rfl, hJ⟩⟩
set_option maxHeartbeats 1000000 in
theorem back1_nil_in (n l Bs : Nat) (J : List (Nat × α) → World → Prop) (W : World) (hBs : W.cell? ⟨Bs, 0, none⟩ = some (.slice none 0 0)) (h0 : J [] W) :
    CallsIn Fence.wide n Try.prog 89 #[.func (.yield l) #[] #[], .pointer (some ⟨Bs, 0, none⟩)] W fun e W' => (∃ v, e = .returned v) ∧ J [] W' := by
  refine callsIn_of_wp Try.func89 rfl trivial ?_ rfl
  simp only [Try.ntmps89, List.size_toArray, List.length_cons, List.length_nil, Nat.reduceAdd, Nat.reduceSub, Array.replicate_succ, Array.replicate_zero, List.push_toArray, List.append_toArray, List.nil_append, List.cons_append]
  gi_wp2
  gi_loopw [3] (fun i wr => i = .int .i64 (-1) ∧ J [] wr) (fun _ _ => 0)
  case atStart => exact ⟨by simp [IntKind.wrap, IntKind.signed, IntKind.bits], h0⟩
  case round =>
    obtain ⟨rfl, hJ⟩ := hrel
    gi_wp2
    go_end0
    exact ⟨⟨_, rfl⟩, hJ⟩
set_option maxHeartbeats 1000000 in
theorem back_any (a : Option Addr) (len cap : Nat) (w : World) :
    Calls Try.prog 58 #[.slice a len cap] w fun e w' => e = .returned (.func (.func 89) #[] #[.pointer (some ⟨w.heap.size, 0, none⟩)]) ∧ w.alloc (.cells #[.slice a len cap] 85) = w' := by
  go_enter Try.func58, Try.ntmps58
  go_wp2
  go_ret
  exact ⟨rfl, rfl⟩
theorem cells_at : ∀ (L : List StC) (j : Nat) (h : j < L.length) (i : Nat), i < 4 → (L.flatMap StC.cells)[j * 4 + i]? = L[j].cells[i]?
  | [], _, h, _, _ => by simp at h
  | c :: L, 0, _, i, hi => by
    rw [List.flatMap_cons, List.getElem?_append_left (by simpa [StC.cells] using hi)]
    simp
  | c :: L, j + 1, h, i, hi => by
    rw [List.flatMap_cons, List.getElem?_append_right (by simp [StC.cells]; omega)]
    rw [show (j + 1) * 4 + i - c.cells.length = j * 4 + i by simp [StC.cells]; omega]
    simpa using cells_at L j (by simpa using h) i hi
theorem back_stops (n Bs n₀ base : Nat) (kv : Value) (L : List StC) (hn : 1 ≤ n) (hl : L.length ≤ 1000000) (w : World) (hB : CBlk w Bs 85 #[kv]) (hn₀ : n₀ ≤ w.heap.size) (hr : WayR base w kv L) (hg : ∀ g, kv.ownBlock = some g → g < n₀) :
    SeqStopsK Fence.wide n Try.prog 89 #[.pointer (some ⟨Bs, 0, none⟩)] (fun x : Nat × {c : StC // c ∈ L} => #[Value.int .i64 x.1, x.2.1.val]) (KpK n₀ Bs) (fun ys => ys.map (fun x => x.2.1) = L.reverse) (fun pre => pre.map (fun x => x.2.1) <+: L.reverse) L.length w :=
  fun l J Jx W hW _ _ hY h0 => by
    have hB' := hB.below hW hB.lt
    rcases hr.2 with ⟨rfl, e0⟩ | ⟨g, cap, cur, rfl, _⟩
    · obtain rfl := List.length_eq_zero_iff.1 e0
      refine (back1_nil_in n l Bs J W (hB'.cell 0) h0).mono fun e W' ⟨he, hj⟩ => ⟨he, .inl ⟨_, rfl, hj⟩⟩
    · have hgl := hg g rfl
      have hla : L.attach.length = L.length := List.length_attach
      refine (back1_in n l Bs n₀ g cap (fun c : {c : StC // c ∈ L} => c.1) L.attach hgl (by rw [hla]; exact hl) J Jx (by rw [hla]; exact hY) hn W (by rw [hla]; exact hB') (fun j hj i hi => ?_) h0).mono ?_
      · rw [hla] at hj
        rw [hW.cell (p := ⟨g, j * 4 + i, none⟩) (Nat.lt_of_lt_of_le hgl hn₀), World.ownsRow.cellAt hr (j * 4 + i) (by omega), cells_at L j hj i hi]
        simp
      · rintro e W' ⟨he, ⟨ys, rfl, hj⟩ | ⟨pre, ⟨k, hk, rfl⟩, hj⟩⟩
        · refine ⟨he, .inl ⟨_, ?_, hj⟩⟩
          have := congrArg (List.map Subtype.val) (upB_all L.attach)
          rw [List.map_map, List.map_reverse, List.attach_map_subtype_val] at this
          exact this
        · refine ⟨he, .inr ⟨_, ?_, hj⟩⟩
          have := congrArg (List.map Subtype.val) (upB_take L.attach k hk)
          rw [List.map_map, List.map_take, List.map_reverse, List.attach_map_subtype_val] at this
          show List.map (fun x : Nat × {c : StC // c ∈ L} => x.2.1) (upB L.attach k) <+: _
          rw [show List.map (fun x : Nat × {c : StC // c ∈ L} => x.2.1) (upB L.attach k) = _ from this]
          exact List.take_prefix _ _
end Its
end Go.Proofs.Ytimhdegdmdilaaa
/- What the questions of near share. -/
namespace Go.Proofs.Ytimhdegdmdilaaa
open Go.RowKit Go.Lib Go.Shelf
set_option linter.unusedVariables false
set_option linter.unnecessarySimpa false
set_option linter.unusedSimpArgs false
set_option linter.unnecessarySimpa false
set_option maxRecDepth 100000
attribute [local go_sem] Oper.semAt_some
section
variable {P : Program} {ops : Array Oper} {Q : Exit → Act → World → Prop} {md : Region.Mode} {S : World → Prop}
theorem wpOpIn_of (l n : Nat) (hd : ∀ (i : Nat) (o : Oper), ops[i]? = some o → ∀ c, o.op ≠ .defer c) (hL : ¬ LetsOut Q) {i : Nat} {K : Act → World → Prop} {a : Act} {w : World} (h : wpOp P ops Q i K a w) : wpOpIn (Fence.wide.inRound l) n P ops Q i K a w := by
  unfold wpOp at h
  unfold wpOpIn
  cases ho : ops[i]? with
  | none => simpa [ho] using h
  | some o =>
    simp only [ho] at h ⊢
    split
    · rename_i hw
      simp only [hw, if_true] at h
      rcases h with h | h
      · refine ⟨fun _ _ => trivial, ?_⟩
        rw [Oper.semAt_eq _ _ _ (hd i o ho)]
        unfold Oper.wp at h
        generalize (execOp a.eval o).run P w = r at *
        cases r with
        | ok x w' =>
          cases x <;> simp only [Oper.upon, Oper.uponIn] at h ⊢
          all_goals first
            | exact h
            | exact ⟨fun e => by simp [Fence.inRound, Fence.wide] at e, CallsIn.inRound l (callsIn_wide.2 h)⟩
            | exact ⟨fun e => by simp [Fence.inRound, Fence.wide] at e, fun c cs _ => by obtain ⟨v, w1, r, s⟩ := h c cs; exact ⟨v, w1, r, stepsIn_wide.2 s⟩⟩
            | exact h.elim
        | halt x w' => cases x <;> simp only [Oper.upon, Oper.uponIn] at h ⊢ <;> exact h
      · exact (hL h.2).elim
    · rename_i hw
      simp only [hw] at h
      exact ⟨fun _ _ => trivial, h⟩
theorem wpAnyIn_of (l n : Nat) (hd : ∀ (i : Nat) (o : Oper), ops[i]? = some o → ∀ c, o.op ≠ .defer c) (hL : ¬ LetsOut Q) : ∀ (fuel : Nat) (listed : Array Bool) (a : Act) (w : World), wpAny P md ops Q fuel listed a w → wpAnyIn (Fence.wide.inRound l) n P md ops Q fuel listed a w
  | 0, _, _, _, h => h
  | fuel + 1, _, _, _, h => ⟨h.1, fun i hi => wpOpIn_mono (fun a' w' h' => wpAnyIn_of l n hd hL fuel _ a' w' h') (wpOpIn_of l n hd hL (h.2 i hi))⟩
/-- the region in a round, from its cells -/
theorem wpIn_region_held (l n : Nat) {id : Nat} {a : Act} {w : World} (hm : P.follows .mixedOrders = true) (hd : ∀ (i : Nat) (o : Oper), ops[i]? = some o → ∀ c, o.op ≠ .defer c) (hL : ¬ LetsOut Q) (hS : S w.drew)
    (h : S w.drew → wpAnyH P .any ops Q S ops.size (Array.replicate ops.size false) a w.drew) : (Code.region id ops true).wpIn (Fence.wide.inRound l) n P Q a w :=
  wpIn_region_any hm (wpAnyIn_of l n hd hL _ _ _ _ (wpAny_of_held _ _ _ _ (h hS)))
end
def entC : Option Ent → List Value
  | some e => [.string (strOf e.1), .string e.2]
  | none => [.string ⟨#[]⟩, .string ⟨#[]⟩]
theorem entV_eq (o : Option Ent) : entV o = .tuple #[.agg (entC o).toArray, .bool o.isSome] := by cases o <;> rfl
theorem results_cell_cell {fn : Func} {p u : Tmp} {ty ty2 : TypeId} (h : fn.results = #[.cell p ty, .cell u ty2]) (tmps : Array Value) (P : Program) (w : World) :
    (results fn tmps).run P w = ((asAddr (tmps.getD p undef)).run P w).andThen fun a w₁ => ((loadVar ty a).run P w₁).andThen fun v w₂ => ((asAddr (tmps.getD u undef)).run P w₂).andThen fun a2 w₃ => ((loadVar ty2 a2).run P w₃).andThen fun v2 w₄ => .ok (.tuple #[v, v2]) w₄ := by
  simp only [results, h]
  simp [Sem.run_bind, Result.andThen]
/-- a pair's box and the box of whether it is there, returned -/
theorem ret_pair2 {fn : Func} (h : fn.results = #[.cell 4 29, .cell 5 4]) (tmps : Array Value) (w : World) (g g2 : Nat) (cs : List Value) (v : Bool) (hp : tmps.getD 4 undef = .pointer (some ⟨g, 0, none⟩)) (hp2 : tmps.getD 5 undef = .pointer (some ⟨g2, 0, none⟩)) (hg : Blk w g 29 cs.toArray) (hi : cs.length = 2) (hg2 : Blk w g2 4 #[.bool v]) :
    (results fn tmps).run Try.prog w = .ok (.tuple #[.agg cs.toArray, .bool v]) w := by
  have h29 : (Try.prog.info? 29).map (·.size) = some cs.toArray.size := by rw [List.size_toArray, hi]; kernel_rfl
  have hl := run_loadVar_row (P := Try.prog) w g 29 29 cs.toArray (0, 0) _ hg Try.underlying29 rfl h29
  have c2 := hg2.cell 0
  have hl2 : (loadVar 4 ⟨g2, 0, none⟩).run Try.prog w = .ok (.bool v) w := by simp [go_sem, c2]
  rw [results_cell_cell h, hp, hp2]
  simp [asAddr, Result.andThen, hl, hl2]
theorem way_len {t : RX} {pre r : List UInt8} {S : List St} (h : WayS t pre r S) (hc : Can t) : S.length ≤ r.length + 1 := by
  induction h with
  | stop h => simp
  | @go t k pre r r' S h hk hr hS ih =>
    have hm : k ∈ t.kids := by rw [hk]; exact List.mem_of_getElem? (rat_get (isO_at h).1)
    have := ih (hc.kids _ hm)
    have h2 : 0 < k.lab.length := List.length_pos_iff.2 (hc.kd k hm).1
    rw [hr, List.length_append, List.length_cons]
    omega
theorem way_shrt {t : RX} {pre r : List UInt8} {S : List St} {M : Nat} (h : WayS t pre r S) (hc : Can t) (hs : ∀ e ∈ body t, pre.length + e.1.length ≤ M) : ∀ s ∈ S, ∀ e ∈ body s.t, s.pre.length + e.1.length ≤ M := by
  induction h with
  | stop h => intro s hs'; obtain rfl := List.mem_singleton.1 hs'; exact hs
  | @go t k pre r r' S h hk hr hS ih =>
    have hm : k ∈ t.kids := by rw [hk]; exact List.mem_of_getElem? (rat_get (isO_at h).1)
    intro s hs'
    rcases List.mem_cons.1 hs' with rfl | h'
    · exact hs
    · refine ih (hc.kids _ hm) (fun e he => ?_) s h'
      have := hs (k.lab ++ e.1, e.2) (body_mem.2 (.inr ⟨k, hm, e.1, he, rfl⟩))
      simp at this ⊢
      omega
theorem kid_shrt {t k : RX} {pre : List UInt8} {M : Nat} (hc : Can t) (hk : k ∈ t.kids) (hs : ∀ e ∈ body t, pre.length + e.1.length ≤ M) : Shrt M k ∧ pre.length + k.lab.length ≤ M := by
  have ha : ∀ e ∈ body k, pre.length + k.lab.length + e.1.length ≤ M := fun e he => by
    have := hs (k.lab ++ e.1, e.2) (body_mem.2 (.inr ⟨k, hk, e.1, he, rfl⟩))
    simp at this
    omega
  obtain ⟨e, he⟩ := kid_some hc hk
  have := ha e he
  exact ⟨fun e he => by have := ha e he; omega, by omega⟩
theorem keeps_of_below {W W' : World} (h : Below W.heap.size W W') : KeepsOthers W W' := ⟨h.size, fun i o ho _ => by
  have hl : i < W.heap.size := by
    rcases Nat.lt_or_ge i W.heap.size with hl | hl
    · exact hl
    · rw [Array.getElem?_eq_none hl] at ho; cases ho
  rw [h.block i hl]; exact ho⟩
def noDefer (ops : Array Oper) : Bool := ops.toList.all fun o => match o.op with | .defer _ => false | _ => true
theorem noDefer_spec {ops : Array Oper} (h : noDefer ops = true) : ∀ (i : Nat) (o : Oper), ops[i]? = some o → ∀ c, o.op ≠ .defer c := fun i o ho c e => by
  unfold noDefer at h
  rw [List.all_eq_true] at h
  have := h o (Array.mem_toList_iff.2 (Array.mem_of_getElem? ho))
  rw [e] at this
  simp at this
theorem wpIn_region_held2 {P : Program} {ops : Array Oper} {Q : Exit → Act → World → Prop} {S : World → Prop} (l n : Nat) {id : Nat} {a : Act} {w : World} (hm : P.follows .mixedOrders = true) (hd : ∀ (i : Nat) (o : Oper), ops[i]? = some o → ∀ c, o.op ≠ .defer c) (hS : S w.drew)
    (h : S w.drew → wpAnyH P .any ops (fun e a w => e = .normal ∧ Q .normal a w) S ops.size (Array.replicate ops.size false) a w.drew) : (Code.region id ops true).wpIn (Fence.wide.inRound l) n P Q a w :=
  Code.wpIn_mono (fun e a w h => by rw [h.1]; exact h.2) (wpIn_region_held l n hm hd (by rintro ⟨a, w, h, _⟩; cases h) hS h)
theorem Blk.own {W W' : World} {row : Option Nat} {g : Nat} {t : TypeId} {cs : Array Value} (h : Blk W g t cs) (hg : W.grownBy W' row) (hr : ∀ r, row = some r → ∃ o : Obj, W.heap[r]? = some o ∧ o.isCells = false) : Blk W' g t cs :=
  (hg.block g h.lt (fun e => by
    obtain ⟨o, ho, hc⟩ := hr g e.symm
    have h' : W.heap[g]? = some (.cells cs t (0, 0)) := h
    rw [h'] at ho
    cases ho
    simp [Obj.isCells] at hc)).trans h
theorem keep3c {a1 a2 a3 : Addr} {v1 v2 v3 : Value} {w w' : World} (h : w.cell? a1 = some v1 ∧ w.cell? a2 = some v2 ∧ w.cell? a3 = some v3) (hB : Below w.heap.size w w') :
    w'.cell? a1 = some v1 ∧ w'.cell? a2 = some v2 ∧ w'.cell? a3 = some v3 := by
  have f : ∀ a v, w.cell? a = some v → w'.cell? a = some v := fun a v e => (hB.cell (World.block_lt_of_cell? w _ e)).trans e
  exact ⟨f _ _ h.1, f _ _ h.2.1, f _ _ h.2.2⟩
theorem preE_nil (o : Option Ent) : o.map (preE []) = o := by cases o <;> simp [preE]
theorem Blk.ne {w : World} {g g' t t' : Nat} {cs cs' : Array Value} (h : Blk w g t cs) (h' : Blk w g' t' cs') (ht : t ≠ t') : g ≠ g' := fun e => by
  subst e
  have h1 : w.heap[g]? = some (.cells cs t (0, 0)) := h
  have h2 : w.heap[g]? = some (.cells cs' t' (0, 0)) := h'
  rw [h1] at h2
  simp at h2
  exact ht h2.2
/-- the tree at a place, with its row -/
theorem SlK.at2 {w : World} {v : Value} {ks : List RX} (h : SlK w v ks) (j : Nat) (hj : j < ks.length) : ∃ (g lo c b : Nat) (cs : Array Value), v = .slice (some ⟨g, lo, none⟩) ks.length c ∧ Blk w g 24 cs ∧ cs[lo + j]? = some (at0 b) ∧ RadT w b (rat ks j) := by
  rcases h with ⟨_, h⟩ | ⟨g, lo, c, bs, cs, h1, h2, h3, h4, h5⟩
  · rw [h] at hj; simp at hj
  · have hb : bs[j]? = some bs[j] := List.getElem?_eq_getElem (by omega)
    exact ⟨g, lo, c, bs[j], cs, h1, h2, h4 j _ hb, h5 j _ _ hb (rat_get hj)⟩
theorem SlK.form {w : World} {v : Value} {ks : List RX} (h : SlK w v ks) : ∃ A c, v = .slice A ks.length c := by
  rcases h with ⟨rfl, rfl⟩ | ⟨g, lo, c, bs, cs, h1, -⟩
  · exact ⟨none, 0, rfl⟩
  · exact ⟨_, _, h1⟩
theorem way_key {t : RX} {pre r : List UInt8} {S : List St} (h : WayS t pre r S) : ∀ s ∈ S, s.pre ++ s.r = pre ++ r := by
  induction h with
  | stop h => intro s hs; obtain rfl := List.mem_singleton.1 hs; rfl
  | @go t k pre r r' S h hk hr hS ih =>
    intro s hs
    rcases List.mem_cons.1 hs with rfl | h'
    · rfl
    · rw [ih s h', hr, List.append_assoc]
set_option maxHeartbeats 1000000 in
/-- the way of the tree that isn't there -/
theorem way_nil (key : ByteArray) (w : World) : Calls Try.prog 59 #[.pointer none, .string key] w fun e w' => e = .returned (.slice none 0 0) ∧ Below w.heap.size w w' := by
  go_enter Try.func59, Try.ntmps59
  go_wp2_with fail
  go_loopw [5, 7] (fun v5 v7 wr => v5 = .slice none 0 0 ∧ v7 = .pointer none ∧ wr = w) (fun _ _ _ => 0)
  case atStart => exact ⟨rfl, rfl, rfl⟩
  case round =>
    obtain ⟨rfl, rfl, rfl⟩ := hrel
    go_wp2_with fail
    go_ret
    exact ⟨rfl, Below.refl _ _⟩
end Go.Proofs.Ytimhdegdmdilaaa
/- near.Above: the first stop from below that has more. -/
namespace Go.Proofs.Ytimhdegdmdilaaa
open Go.RowKit Go.Lib Go.Shelf
set_option linter.unusedVariables false
set_option linter.unnecessarySimpa false
set_option linter.unusedSimpArgs false
set_option linter.unnecessarySimpa false
set_option maxRecDepth 100000
attribute [local go_sem] Oper.semAt_some
theorem ownA_nil {s : St} (h : moreS s = []) : ownA s = none := by simp [ownA, h, bodyL]
theorem ownA_kid {s : St} (hc : Can s.t) (h : 0 < (moreS s).length) : rat (moreS s) 0 ∈ s.t.kids ∧ ownA s = ((body (rat (moreS s) 0)).head?).map (preE (s.pre ++ (rat (moreS s) 0).lab)) ∧ ∃ e, (body (rat (moreS s) 0)).head? = some e := by
  cases hm : moreS s with
  | nil => rw [hm] at h; simp at h
  | cons k ks =>
    have hk : rat (k :: ks) 0 = k := by simp [rat]
    have hmem : k ∈ s.t.kids := List.mem_of_mem_drop (show k ∈ moreS s by rw [hm]; simp)
    rw [hk]
    obtain ⟨e, he⟩ := kid_some hc hmem
    cases hb : body k with
    | nil => rw [hb] at he; simp at he
    | cons x xs => exact ⟨hmem, by unfold ownA; rw [hm, bodyL_cons, hb]; simp [preE], x, rfl⟩
set_option maxHeartbeats 4000000 in
theorem above_in (rt : Value) (key : ByteArray) (goal : Option Ent) (w : World)
    (K0 : ∀ W, Below w.heap.size w W → Calls Try.prog 59 #[rt, .string key] W fun e w' => ∃ v L, e = .returned v ∧ WayR W.heap.size w' v L ∧ (∀ c ∈ L, StOK w' c) ∧ (L.length ≤ 1000000 ∧ (∀ s ∈ L.map (·.s), ∀ e ∈ body s.t, s.pre.length + e.1.length ≤ 1000) ∧ (∀ s ∈ L.map (·.s), s.pre ++ s.r = key.data.toList) ∧ (L.map (·.s)).reverse.findSome? ownA = goal) ∧ Below W.heap.size W w') :
    CallsIn Fence.wide 5 Try.prog 30 #[rt, .string key] w fun e w' => e = .returned (entV goal) ∧ Below w.heap.size w w' := by
  have b4 := (Blk.new w 29 #[.string ⟨#[]⟩, .string ⟨#[]⟩]).alloc (.cells #[.bool false] 4)
  have b5 := Blk.new (w.alloc (.cells #[.string ⟨#[]⟩, .string ⟨#[]⟩] 29)) 4 #[.bool false]
  have hB : Below w.heap.size w ((w.alloc (.cells #[.string ⟨#[]⟩, .string ⟨#[]⟩] 29)).alloc (.cells #[.bool false] 4)) := ((Below.refl _ w).alloc (Nat.le_refl _) _).alloc (by simp) _
  have k0 := K0 _ hB
  clear K0
  simp only [World.size_alloc] at b4 b5
  refine callsIn_of_wp_marks Try.func30 rfl trivial ?_ rfl
  simp only [Try.ntmps30, List.size_toArray, List.length_cons, List.length_nil, Nat.reduceAdd, Nat.reduceSub, Array.replicate_succ, Array.replicate_zero, List.push_toArray, List.append_toArray, List.nil_append, List.cons_append]
  gi_wp2
  generalize (w.alloc (.cells #[.string ⟨#[]⟩, .string ⟨#[]⟩] 29)).alloc (.cells #[.bool false] 4) = W0 at *
  have h45 : w.heap.size ≠ w.heap.size + 1 := by omega
  have h45' : w.heap.size ≤ w.heap.size + 1 := by omega
  generalize w.heap.size + 1 = N5 at *
  generalize hz : w.heap.size = N4 at *
  have HN4 := Lib.hid hz.symm
  clear hz
  refine ⟨trivial, (callsIn_wide.2 k0).mono ?_⟩
  rintro e W1 ⟨v, L, rfl, hR, hL, ⟨hLN, hSH, hWK, hAW⟩, hB1⟩
  obtain ⟨A, c, rfl⟩ := own_formN hR
  clear k0
  gi_wp2
  refine ⟨trivial, (callsIn_wide.2 (Its.back_any _ _ _ _)).mono ?_⟩
  rintro e w' ⟨rfl, rfl⟩
  gi_wp2
  have HLL := Lib.hid hLN
  have bB := Its.CBlk.new W1 85 #[.slice A L.length c]
  have hBx := (Below.refl _ W1).alloc (Nat.le_refl _) (.cells #[.slice A L.length c] 85)
  have b4 := (b4.below hB1).below hBx
  have b5 := (b5.below hB1).below hBx
  have hR := own_keep hR (Keep.of_below (X := []) hBx) (by simp)
  have HL := Lib.hid (fun c hc => (hL c hc).below hBx)
  have hB := hB.trans ((hB1.trans (hBx.mono hB1.size)).mono (by rw [HN4.out]; exact hB.size))
  have hW1 : W0.heap.size ≤ W1.heap.size := hB1.size
  clear hL hB1
  have hBs := bB.lt
  generalize W1.alloc (.cells #[.slice A L.length c] 85) = W2 at *
  generalize W1.heap.size = Bs at *
  refine wpIn_rangeFunc_ownH rfl (by decide) (gf := 89) (lb := #[.pointer (some ⟨Bs, 0, none⟩)]) rfl trivial (enters_of Try.func89 (by kernel_rfl) rfl)
    (Its.back_stops (5 - 1) Bs W2.heap.size W0.heap.size (.slice A L.length c) L (by decide) hLN W2 bB (Nat.le_refl _) hR (fun g hg => by obtain ⟨cur, hc⟩ := own_cells hR g hg; exact (Array.getElem?_eq_some_iff.1 hc).1)) Its.KpK_t (Its.KpK_b (Nat.le_refl _) hBs) (Below.refl _ _) (fun _ => rfl)
    (fun pre W => (∀ x ∈ pre, ownA x.2.1.s = none) ∧ Below W2.heap.size W2 W)
    (fun c pre W => (((c = .ret ∧ ((pre.map fun x => x.2.1.s).findSome? ownA).isSome = true) ∧ Blk W N4 29 (entC ((pre.map fun x => x.2.1.s).findSome? ownA)).toArray) ∧ Blk W N5 4 #[.bool true]) ∧ Below N4 w W)
    (OwnFrom.and (ownFrom_pure _ _) (ownFrom_below (Nat.le_refl _) (Nat.le_refl _)))
    (fun c => OwnFrom.and (OwnFrom.and (OwnFrom.and (ownFrom_pure _ _) (Own.from (fun s X Y row hs hg hr => hs.own hg hr) _)) (Own.from (fun s X Y row hs hg hr => hs.own hg hr) _)) (ownFrom_below (by rw [HN4.out]; exact Nat.le_refl _) (by rw [HN4.out]; exact hB.size)))
    ⟨by simp, Below.refl _ _⟩
    (fun x a' W => ∃ N7, Blk W N7 88 #[at0 x.2.1.b, .string x.2.1.key, x.2.1.vl, x.2.1.vm] ∧ W2.heap.size ≤ N7 ∧ a' = { tmps := #[rt, .string key, undef, undef, .pointer (some ⟨N4, 0, none⟩), .pointer (some ⟨N5, 0, none⟩), undef, .pointer (some ⟨N7, 0, none⟩), rt, .string key, .slice A L.length c, .func (.func 89) #[] #[.pointer (some ⟨Bs, 0, none⟩)], .int .i64 x.1, x.2.1.val, undef, undef, undef, undef, undef, undef, undef, undef, undef, undef, undef, undef, undef, undef, undef, undef, undef, undef, undef, undef], defers := [] })
    (fun x a' => fun s X Y row hs hg hr => by obtain ⟨N7, h1, h2, h3⟩ := hs; exact ⟨N7, h1.own hg (fun r e => (hr r e).2), h2, h3⟩)
    ?assign ?body ?done ?stop
  case assign =>
    rintro l pre x W K ⟨hE, hB1⟩ hK
    have hbl : Blk (W.alloc (.cells x.2.1.cells.toArray 88)) W.heap.size 88 x.2.1.cells.toArray := Blk.new W 88 _
    have hBa := (Below.refl _ W).alloc (Nat.le_refl _) (.cells x.2.1.cells.toArray 88)
    have hK' := hK { tmps := #[rt, .string key, undef, undef, .pointer (some ⟨N4, 0, none⟩), .pointer (some ⟨N5, 0, none⟩), undef, .pointer (some ⟨W.heap.size, 0, none⟩), rt, .string key, .slice A L.length c, .func (.func 89) #[] #[.pointer (some ⟨Bs, 0, none⟩)], .int .i64 x.1, x.2.1.val, undef, undef, undef, undef, undef, undef, undef, undef, undef, undef, undef, undef, undef, undef, undef, undef, undef, undef, undef, undef], defers := [] } _ ((keeps_of_below hBa).from _) ⟨hBa.mono hB1.size, hBa.block Bs (Nat.lt_of_lt_of_le hBs hB1.size)⟩ ⟨hE, hB1.trans (hBa.mono hB1.size)⟩ ⟨W.heap.size, hbl, hB1.size, rfl⟩
    clear hK hE hB1 hbl hBa
    obtain ⟨x1, ⟨C, hCL⟩⟩ := x
    obtain ⟨Cs, Cb, Ck, Cl, Cm⟩ := C
    obtain ⟨A1, c1, e1⟩ := (HL.out _ hCL).less.form
    obtain ⟨A2, c2, e2⟩ := (HL.out _ hCL).more.form
    dsimp only at e1 e2
    subst e1 e2
    clear hSH hWK hAW b4 b5 hR hB bB hBx hW1
    simp only [StC.cells, StC.val, at0] at hK' ⊢
    gi_wp2
    exact hK'
  case body =>
    rintro l pre x a' W hl hr ⟨hE, hB1⟩ ⟨N7, b7, hN7, rfl⟩ hlt
    have hx := (HL.out _ x.2.2).below hB1
    have hsh := hSH x.2.1.s (List.mem_map.2 ⟨_, x.2.2, rfl⟩)
    have hWs := hB1.size
    have hw2 := hB.size
    rw [← HN4.out] at hw2
    have hw2' : N4 ≤ W2.heap.size := hw2
    have hN74 : N7 ≠ N4 := by have := b4.lt; omega
    have hN75 : N7 ≠ N5 := by have := b5.lt; omega
    have b4 := b4.below hB1
    have b5 := b5.below hB1
    obtain ⟨x1, ⟨C, hCL⟩⟩ := x
    obtain ⟨s, sb, sk, sl, sm⟩ := C
    obtain ⟨A1, c1, e1⟩ := hx.less.form
    obtain ⟨A2, c2, e2⟩ := hx.more.form
    obtain ⟨M, hM⟩ : ∃ M, M = (moreS s).length := ⟨_, rfl⟩
    dsimp only at e1 e2 hsh
    rw [← hM] at e2
    subst e1 e2
    dsimp only at b7 hx
    refine Code.wpIn_mono (Q := fun e a w' => (e = .normal ∧ moreS s = [] ∧ Below W.heap.size W w') ∨ (e = .ret ∧ (ownA s).isSome = true ∧ Blk w' N4 29 (entC (ownA s)).toArray ∧ Blk w' N5 4 #[.bool true] ∧ Below N4 W w' ∧ KeepsOthers W w')) ?_ ?_
    · rintro e a w' (⟨rfl, hm, hB2⟩ | ⟨rfl, ho, h4, h5', hB2, hk2⟩)
      · refine ⟨(keeps_of_below hB2).from _, ⟨hB2.mono hWs, hB2.block Bs (Nat.lt_of_lt_of_le hBs hWs)⟩, fun x' hx' => ?_, hB1.trans (hB2.mono hWs)⟩
        rcases List.mem_append.1 hx' with h | h
        · exact hE x' h
        · obtain rfl := List.mem_singleton.1 h
          exact ownA_nil hm
      · have hfs : ((pre ++ [(x1, (⟨⟨s, sb, sk, .slice A1 (lessS s).length c1, .slice A2 M c2⟩, hCL⟩ : {c // c ∈ L}))]).map fun x => x.2.1.s).findSome? ownA = ownA s := by
          rw [List.map_append, List.findSome?_append, List.findSome?_eq_none_iff.2 (fun s' hs' => by obtain ⟨x', h1, rfl⟩ := List.mem_map.1 hs'; exact hE x' h1)]
          simp
        refine ⟨hk2.from _, ⟨⟨⟨rfl, by rw [hfs]; exact ho⟩, by rw [hfs]; exact h4⟩, h5'⟩, (hB.trans (hB1.mono hw2')).trans hB2⟩
    have y3 := b7.cell 3
    rcases Nat.eq_zero_or_pos M with h0 | hpos
    · subst h0
      clear hSH hWK hAW b4 b5 hR hB bB hBx hW1 b7 hx hsh
      have HM := Lib.hid (List.length_eq_zero_iff.1 hM.symm)
      clear hM
      gi_wp2
      exact ⟨HM.out, Below.refl _ _⟩
    · obtain ⟨g, lo, cc, kb, cs, e, bg, hcs, hRk⟩ := hx.more.at2 0 (by rw [← hM]; exact hpos)
      rw [← hM] at e
      simp only [Value.slice.injEq] at e
      obtain ⟨rfl, -, rfl⟩ := e
      obtain ⟨hmem, hown, e0, he0⟩ := ownA_kid hx.can (by rw [← hM]; exact hpos)
      obtain ⟨hks, hkl⟩ := kid_shrt hx.can hmem hsh
      obtain ⟨lab, hlab, klab⟩ := label_any _ kb _ W hRk
      have hkey : (sk ++ lab).data.toList = s.pre ++ (rat (moreS s) 0).lab := by
        have hk1 : sk.data.toList = s.pre := hx.key
        simp [hk1, hlab]
      have hksz : (sk ++ lab).size ≤ 1000 := by
        have h1 : (sk ++ lab).data.toList.length = (sk ++ lab).size := size_of _
        rw [← h1, hkey, List.length_append]
        exact hkl
      obtain ⟨o, ho⟩ : ∃ o, ownA s = some o := ⟨_, by rw [hown, he0]; rfl⟩
      have kf : ∀ W', Below W.heap.size W W' → Calls Try.prog 62 #[.pointer (some ⟨kb, 0, none⟩), .string (sk ++ lab)] W' fun e w' => e = .returned (.tuple #[.agg #[.string (strOf o.1), .string o.2], .bool true]) ∧ Below W'.heap.size W' w' := fun W' hB' => by
        have := nfirst_any kb _ (sk ++ lab) W' (hRk.stay hB') (hx.can.kids _ hmem) hks hksz
        rw [hkey, ← hown, ho] at this
        exact this
      rw [Nat.add_zero] at hcs
      have hg4 := bg.ne b4 (by decide)
      have hg5 := bg.ne b5 (by decide)
      have y1 := b7.cell 1
      have yg := (bg.cell lo).trans hcs
      have hadd : sk.size + lab.size ≤ 9223372036854775807 := by rw [ByteArray.size_append] at hksz; omega
      have hip : (0 : Int) < (M : Int) := by omega
      have HO := Lib.hid ho
      have HBG := Lib.hid bg
      have HB7 := Lib.hid b7
      have HB4 := Lib.hid b4
      have HB5 := Lib.hid b5
      have HCS := Lib.hid hcs
      have HNW := Lib.hid (show N4 ≤ W.heap.size by omega)
      clear hSH hWK hAW b4 b5 hR hB bB hBx hW1 b7 hx hsh hE hRk hmem hown he0 hks hkl hlab hkey hksz ho bg hcs hM
      unfold at0 at klab y3 y1 yg HB7 HCS
      gi_wp2
      have hdr : Below W.heap.size W W.drew := (Below.refl _ W).drew
      have hS0 : (fun w' : World => w'.cell? ⟨N7, 3, none⟩ = some (.slice (some ⟨g, lo, none⟩) M c2) ∧ w'.cell? ⟨N7, 1, none⟩ = some (.string sk) ∧ w'.cell? ⟨g, lo, none⟩ = some (.pointer (some ⟨kb, 0, none⟩))) W.drew := ⟨y3, y1, yg⟩
      clear y3 y1 yg
      refine wpIn_region_held2 l _ (S := (fun w' : World => w'.cell? ⟨N7, 3, none⟩ = some (.slice (some ⟨g, lo, none⟩) M c2) ∧ w'.cell? ⟨N7, 1, none⟩ = some (.string sk) ∧ w'.cell? ⟨g, lo, none⟩ = some (.pointer (some ⟨kb, 0, none⟩)))) (by kernel_rfl) (noDefer_spec (by kernel_rfl)) hS0 ?_
      intro hS
      refine wpAnyH_take (i := 0) (oi := { dst := some 18, op := Go.Op.fieldAddr 88 (Go.Operand.tmp 7) 3, type := 0, pos := "near.go:57", after := #[], guard := none }) (v := .pointer (some ⟨N7, 3, none⟩)) rfl (by kernel_rfl) (by kernel_rfl) (by kernel_rfl) (fun _ _ _ h => by cases h.1) (Or.inl ⟨by rfl, fun w hSw => ?_⟩) hS ?_
      · go_split_ands
        go_simp
      try simp only [Act.put, List.setIfInBounds_toArray, List.set_cons_zero, List.set_cons_succ]
      refine wpAnyH_take (i := 1) (oi := { dst := some 19, op := Go.Op.load 86 (Go.Operand.tmp 18), type := 86, pos := "near.go:57", after := #[{ on := 0, ground := Go.Ground.data }], guard := none }) (v := .slice (some ⟨g, lo, none⟩) M c2) rfl (by kernel_rfl) (by kernel_rfl) (by kernel_rfl) (fun _ _ _ h => by cases h.1) (Or.inl ⟨by rfl, fun w hSw => ?_⟩) hS ?_
      · go_split_ands
        go_simp
      try simp only [Act.put, List.setIfInBounds_toArray, List.set_cons_zero, List.set_cons_succ]
      refine wpAnyH_take (i := 2) (oi := { dst := some 20, op := Go.Op.indexAddr 86 (Go.Operand.tmp 19) (Go.Operand.const (Go.Value.int Go.IntKind.i64 0)), type := 0, pos := "near.go:57", after := #[{ on := 1, ground := Go.Ground.data }], guard := none }) (v := .pointer (some ⟨g, lo, none⟩)) rfl (by kernel_rfl) (by kernel_rfl) (by kernel_rfl) (fun _ _ _ h => by cases h.1) (Or.inl ⟨by rfl, fun w hSw => ?_⟩) hS ?_
      · go_split_ands
        go_simp
      try simp only [Act.put, List.setIfInBounds_toArray, List.set_cons_zero, List.set_cons_succ]
      refine wpAnyH_take (i := 3) (oi := { dst := some 21, op := Go.Op.load 24 (Go.Operand.tmp 20), type := 24, pos := "near.go:57", after := #[{ on := 2, ground := Go.Ground.data }], guard := none }) (v := .pointer (some ⟨kb, 0, none⟩)) rfl (by kernel_rfl) (by kernel_rfl) (by kernel_rfl) (fun _ _ _ h => by cases h.1) (Or.inl ⟨by rfl, fun w hSw => ?_⟩) hS ?_
      · go_split_ands
        go_simp
      try simp only [Act.put, List.setIfInBounds_toArray, List.set_cons_zero, List.set_cons_succ]
      refine wpAnyH_take (i := 4) (oi := { dst := some 22, op := Go.Op.fieldAddr 88 (Go.Operand.tmp 7) 1, type := 0, pos := "near.go:57", after := #[], guard := none }) (v := .pointer (some ⟨N7, 1, none⟩)) rfl (by kernel_rfl) (by kernel_rfl) (by kernel_rfl) (fun _ _ _ h => by cases h.1) (Or.inl ⟨by rfl, fun w hSw => ?_⟩) hS ?_
      · go_split_ands
        go_simp
      try simp only [Act.put, List.setIfInBounds_toArray, List.set_cons_zero, List.set_cons_succ]
      refine wpAnyH_take (i := 5) (oi := { dst := some 23, op := Go.Op.load 9 (Go.Operand.tmp 22), type := 9, pos := "near.go:57", after := #[{ on := 4, ground := Go.Ground.data }], guard := none }) (v := .string sk) rfl (by kernel_rfl) (by kernel_rfl) (by kernel_rfl) (fun _ _ _ h => by cases h.1) (Or.inl ⟨by rfl, fun w hSw => ?_⟩) hS ?_
      · go_split_ands
        go_simp
      try simp only [Act.put, List.setIfInBounds_toArray, List.set_cons_zero, List.set_cons_succ]
      refine wpAnyH_take (i := 6) (oi := { dst := some 24, op := Go.Op.fieldAddr 88 (Go.Operand.tmp 7) 3, type := 0, pos := "near.go:57", after := #[], guard := none }) (v := .pointer (some ⟨N7, 3, none⟩)) rfl (by kernel_rfl) (by kernel_rfl) (by kernel_rfl) (fun _ _ _ h => by cases h.1) (Or.inl ⟨by rfl, fun w hSw => ?_⟩) hS ?_
      · go_split_ands
        go_simp
      try simp only [Act.put, List.setIfInBounds_toArray, List.set_cons_zero, List.set_cons_succ]
      refine wpAnyH_take (i := 7) (oi := { dst := some 25, op := Go.Op.load 86 (Go.Operand.tmp 24), type := 86, pos := "near.go:57", after := #[{ on := 6, ground := Go.Ground.data }], guard := none }) (v := .slice (some ⟨g, lo, none⟩) M c2) rfl (by kernel_rfl) (by kernel_rfl) (by kernel_rfl) (fun _ _ _ h => by cases h.1) (Or.inl ⟨by rfl, fun w hSw => ?_⟩) hS ?_
      · go_split_ands
        go_simp
      try simp only [Act.put, List.setIfInBounds_toArray, List.set_cons_zero, List.set_cons_succ]
      refine wpAnyH_take (i := 8) (oi := { dst := some 26, op := Go.Op.indexAddr 86 (Go.Operand.tmp 25) (Go.Operand.const (Go.Value.int Go.IntKind.i64 0)), type := 0, pos := "near.go:57", after := #[{ on := 7, ground := Go.Ground.data }], guard := none }) (v := .pointer (some ⟨g, lo, none⟩)) rfl (by kernel_rfl) (by kernel_rfl) (by kernel_rfl) (fun _ _ _ h => by cases h.1) (Or.inl ⟨by rfl, fun w hSw => ?_⟩) hS ?_
      · go_split_ands
        go_simp
      try simp only [Act.put, List.setIfInBounds_toArray, List.set_cons_zero, List.set_cons_succ]
      refine wpAnyH_take (i := 9) (oi := { dst := some 27, op := Go.Op.load 24 (Go.Operand.tmp 26), type := 24, pos := "near.go:57", after := #[{ on := 8, ground := Go.Ground.data }], guard := none }) (v := .pointer (some ⟨kb, 0, none⟩)) rfl (by kernel_rfl) (by kernel_rfl) (by kernel_rfl) (fun _ _ _ h => by cases h.1) (Or.inl ⟨by rfl, fun w hSw => ?_⟩) hS ?_
      · go_split_ands
        go_simp
      try simp only [Act.put, List.setIfInBounds_toArray, List.set_cons_zero, List.set_cons_succ]
      refine wpAnyH_ready (rs := [10]) (by kernel_rfl) (by simp) ?_
      refine AllReadyH.cons (o := { dst := some 28, op := Go.Op.call { callee := Go.Callee.value (Go.Operand.func 67), args := #[Go.Operand.tmp 27], argTypes := #[24] }, type := 9, pos := "near.go:57", after := #[{ on := 9, ground := Go.Ground.data }], guard := none }) rfl (fun K hK => ?_) AllReadyH.nil
      go_simp
      refine (klab _ hdr).mono ?_
      rintro e wB ⟨rfl, rfl⟩
      go_wp2_with fail
      have hSn := hS
      refine hK.out _ _ hSn (fun _ => ?_)
      clear hK K hS
      try simp only [Act.put, List.setIfInBounds_toArray, List.set_cons_zero, List.set_cons_succ]
      have hS := hSn
      clear hSn
      refine wpAnyH_take (i := 11) (oi := { dst := some 29, op := Go.Op.binOp Go.BinOp.add 9 (Go.Operand.tmp 23) (Go.Operand.tmp 28) 9, type := 9, pos := "near.go:57", after := #[{ on := 5, ground := Go.Ground.data }, { on := 10, ground := Go.Ground.data }], guard := none }) (v := .string (sk ++ lab)) rfl (by kernel_rfl) (by kernel_rfl) (by kernel_rfl) (fun _ _ _ h => by cases h.1) (Or.inl ⟨by rfl, fun w hSw => ?_⟩) hS ?_
      · go_split_ands
        go_simp
      try simp only [Act.put, List.setIfInBounds_toArray, List.set_cons_zero, List.set_cons_succ]
      refine wpAnyH_ready (rs := [12]) (by kernel_rfl) (by simp) ?_
      refine AllReadyH.cons (o := { dst := some 30, op := Go.Op.call { callee := Go.Callee.value (Go.Operand.func 62), args := #[Go.Operand.tmp 21, Go.Operand.tmp 29], argTypes := #[24, 9] }, type := 31, pos := "near.go:57", after := #[{ on := 3, ground := Go.Ground.data }, { on := 11, ground := Go.Ground.data }, { on := 10, ground := Go.Ground.chain }], guard := none }) rfl (fun K hK => ?_) AllReadyH.nil
      go_simp
      refine (kf _ hdr).mono ?_
      rintro e wA ⟨rfl, hBA⟩
      go_wp2_with fail
      have hSn := keep3c hS hBA
      refine hK.out _ _ hSn (fun _ => ?_)
      clear hK K hS
      try simp only [Act.put, List.setIfInBounds_toArray, List.set_cons_zero, List.set_cons_succ]
      have hS := hSn
      clear hSn
      have hBA := hdr.trans (hBA.mono hdr.size)
      have HKP := Lib.hid (keeps_of_below hBA)
      have h4 := HB4.out.below hBA
      have h5 := HB5.out.below hBA
      have h7 := HB7.out.below hBA
      have hg := HBG.out.below hBA
      have z0 := h4.cell 0
      have z1 := h4.cell 1
      have zf := h4.frozen 0
      have zf1 := h4.frozen 1
      refine wpAnyH_take (i := 13) (oi := { dst := some 31, op := Go.Op.extract (Go.Operand.tmp 30) 0, type := 29, pos := "near.go:57", after := #[{ on := 12, ground := Go.Ground.data }], guard := none }) (v := .agg #[.string (strOf o.1), .string o.2]) rfl (by kernel_rfl) (by kernel_rfl) (by kernel_rfl) (fun _ _ _ h => by cases h.1) (Or.inl ⟨by rfl, fun w hSw => ?_⟩) hS ?_
      · go_split_ands
        go_simp
      try simp only [Act.put, List.setIfInBounds_toArray, List.set_cons_zero, List.set_cons_succ]
      refine wpAnyH_take (i := 14) (oi := { dst := some 32, op := Go.Op.extract (Go.Operand.tmp 30) 1, type := 4, pos := "near.go:57", after := #[{ on := 12, ground := Go.Ground.data }], guard := none }) (v := .bool true) rfl (by kernel_rfl) (by kernel_rfl) (by kernel_rfl) (fun _ _ _ h => by cases h.1) (Or.inl ⟨by rfl, fun w hSw => ?_⟩) hS ?_
      · go_split_ands
        go_simp
      try simp only [Act.put, List.setIfInBounds_toArray, List.set_cons_zero, List.set_cons_succ]
      refine wpAnyH_ready (rs := [15]) (by kernel_rfl) (by simp) ?_
      refine AllReadyH.cons (o := { dst := none, op := Go.Op.store 29 (Go.Operand.tmp 4) (Go.Operand.tmp 31), type := 0, pos := "near.go:57", after := #[{ on := 13, ground := Go.Ground.data }, { on := 12, ground := Go.Ground.chain }, { on := 0, ground := Go.Ground.phase }, { on := 1, ground := Go.Ground.phase }, { on := 2, ground := Go.Ground.phase }, { on := 3, ground := Go.Ground.phase }, { on := 4, ground := Go.Ground.phase }, { on := 5, ground := Go.Ground.phase }, { on := 6, ground := Go.Ground.phase }, { on := 7, ground := Go.Ground.phase }, { on := 8, ground := Go.Ground.phase }, { on := 9, ground := Go.Ground.phase }, { on := 10, ground := Go.Ground.phase }, { on := 11, ground := Go.Ground.phase }, { on := 12, ground := Go.Ground.phase }, { on := 13, ground := Go.Ground.phase }, { on := 14, ground := Go.Ground.phase }], guard := none }) rfl (fun K hK => ?_) AllReadyH.nil
      go_simp
      have h7 := (h7.far (p := ⟨N4, 0, none⟩) hN74 (.string (strOf o.1))).far (p := ⟨N4, 1, none⟩) hN74 (.string o.2)
      have hg := (hg.far (p := ⟨N4, 0, none⟩) hg4 (.string (strOf o.1))).far (p := ⟨N4, 1, none⟩) hg4 (.string o.2)
      have h5 := (h5.far (p := ⟨N4, 0, none⟩) (Ne.symm h45) (.string (strOf o.1))).far (p := ⟨N4, 1, none⟩) (Ne.symm h45) (.string o.2)
      have h4 := h4.set2 (.string (strOf o.1)) (.string o.2)
      have hBA := ((hBA.mono HNW.out).setCell (p := ⟨N4, 0, none⟩) (Nat.le_refl _) (.string (strOf o.1))).setCell (p := ⟨N4, 1, none⟩) (Nat.le_refl _) (.string o.2)
      have hKP := (HKP.out.trans (KeepsOthers.setCell _ ⟨N4, 0, none⟩ (.string (strOf o.1)))).trans (KeepsOthers.setCell _ ⟨N4, 1, none⟩ (.string o.2))
      have hSn : (fun w' : World => w'.cell? ⟨N7, 3, none⟩ = some (.slice (some ⟨g, lo, none⟩) M c2) ∧ w'.cell? ⟨N7, 1, none⟩ = some (.string sk) ∧ w'.cell? ⟨g, lo, none⟩ = some (.pointer (some ⟨kb, 0, none⟩))) _ := ⟨h7.cell 3, h7.cell 1, (hg.cell lo).trans HCS.out⟩
      refine hK.out _ _ hSn (fun _ => ?_)
      clear hK K hS z0 z1 zf zf1
      generalize (wA.setCell ⟨N4, 0, none⟩ (.string (strOf o.1))).setCell ⟨N4, 1, none⟩ (.string o.2) = wC at *
      have hS := hSn
      clear hSn
      have z0 := h5.cell 0
      have zf := h5.frozen 0
      try simp only [Act.put, List.setIfInBounds_toArray, List.set_cons_zero, List.set_cons_succ]
      refine wpAnyH_ready (rs := [16]) (by kernel_rfl) (by simp) ?_
      refine AllReadyH.cons (o := { dst := none, op := Go.Op.store 4 (Go.Operand.tmp 5) (Go.Operand.tmp 32), type := 0, pos := "near.go:57", after := #[{ on := 14, ground := Go.Ground.data }, { on := 15, ground := Go.Ground.chain }, { on := 0, ground := Go.Ground.phase }, { on := 1, ground := Go.Ground.phase }, { on := 2, ground := Go.Ground.phase }, { on := 3, ground := Go.Ground.phase }, { on := 4, ground := Go.Ground.phase }, { on := 5, ground := Go.Ground.phase }, { on := 6, ground := Go.Ground.phase }, { on := 7, ground := Go.Ground.phase }, { on := 8, ground := Go.Ground.phase }, { on := 9, ground := Go.Ground.phase }, { on := 10, ground := Go.Ground.phase }, { on := 11, ground := Go.Ground.phase }, { on := 12, ground := Go.Ground.phase }, { on := 13, ground := Go.Ground.phase }, { on := 14, ground := Go.Ground.phase }, { on := 15, ground := Go.Ground.phase }], guard := none }) rfl (fun K hK => ?_) AllReadyH.nil
      go_simp
      have h7 := h7.far (p := ⟨N5, 0, none⟩) hN75 (.bool true)
      have hg := hg.far (p := ⟨N5, 0, none⟩) hg5 (.bool true)
      have h4 := h4.far (p := ⟨N5, 0, none⟩) h45 (.bool true)
      have h5 := h5.set_ 0 (.bool true)
      have hBA := hBA.setCell (p := ⟨N5, 0, none⟩) h45' (.bool true)
      have hKP := hKP.trans (KeepsOthers.setCell _ ⟨N5, 0, none⟩ (.bool true))
      have hSn : (fun w' : World => w'.cell? ⟨N7, 3, none⟩ = some (.slice (some ⟨g, lo, none⟩) M c2) ∧ w'.cell? ⟨N7, 1, none⟩ = some (.string sk) ∧ w'.cell? ⟨g, lo, none⟩ = some (.pointer (some ⟨kb, 0, none⟩))) _ := ⟨h7.cell 3, h7.cell 1, (hg.cell lo).trans HCS.out⟩
      refine hK.out _ _ hSn (fun _ => ?_)
      clear hK K hS z0 zf
      generalize wC.setCell ⟨N5, 0, none⟩ (.bool true) = wE at *
      have hS := hSn
      clear hSn
      try simp only [Act.put, List.setIfInBounds_toArray, List.set_cons_zero, List.set_cons_succ]
      refine wpAnyH_done (by kernel_rfl) ?_ _
      refine ⟨rfl, ?_⟩
      clear hdr hS0 hS
      have HH := Lib.hid (⟨h4, h5, hBA, hKP⟩ : Blk wE N4 29 _ ∧ Blk wE N5 4 _ ∧ Below N4 W wE ∧ KeepsOthers W wE)
      clear h4 h5 hBA hKP h7 hg kf klab
      gi_wp2
      exact ⟨by rw [HO.out]; rfl, by rw [HO.out]; exact HH.out.1, HH.out.2.1, HH.out.2.2.1, HH.out.2.2.2⟩
  case done =>
    rintro D ys W hD hys ⟨hE, hB1⟩ hK
    obtain rfl : goal = none := by
      rw [← hAW, ← List.map_reverse, ← hys, List.map_map]
      exact List.findSome?_eq_none_iff.2 (fun s' hs' => by obtain ⟨x', h1, rfl⟩ := List.mem_map.1 hs'; exact hE x' h1)
    have hw2 := hB.size
    rw [← HN4.out] at hw2
    have b4 := b4.below hB1
    have b5 := b5.below hB1
    have z0 := b4.cell 0
    have zf := b4.frozen 0
    have zf1 := b4.frozen 1
    have z1 := b4.cell 1
    have z5 := ((b5.far (p := ⟨N4, 0, none⟩) (Ne.symm h45) (.string ⟨#[]⟩)).far (p := ⟨N4, 1, none⟩) (Ne.symm h45) (.string ⟨#[]⟩)).cell 0
    have zf5 := ((b5.far (p := ⟨N4, 0, none⟩) (Ne.symm h45) (.string ⟨#[]⟩)).far (p := ⟨N4, 1, none⟩) (Ne.symm h45) (.string ⟨#[]⟩)).frozen 0
    have F4 := (b4.set2 (.string ⟨#[]⟩) (.string ⟨#[]⟩)).far (p := ⟨N5, 0, none⟩) h45 (.bool false)
    have F5 := ((b5.far (p := ⟨N4, 0, none⟩) (Ne.symm h45) (.string ⟨#[]⟩)).far (p := ⟨N4, 1, none⟩) (Ne.symm h45) (.string ⟨#[]⟩)).set_ 0 (.bool false)
    have hK' := (((KeepsOthers.setCell W ⟨N4, 0, none⟩ (.string ⟨#[]⟩)).trans (KeepsOthers.setCell _ ⟨N4, 1, none⟩ (.string ⟨#[]⟩))).trans (KeepsOthers.setCell _ ⟨N5, 0, none⟩ (.bool false))).same D _ hK rfl
    have hB2 := (((hB.trans (hB1.mono hw2)).setCell (p := ⟨N4, 0, none⟩) (Nat.le_refl _) (.string ⟨#[]⟩)).setCell (p := ⟨N4, 1, none⟩) (Nat.le_refl _) (.string ⟨#[]⟩)).setCell (p := ⟨N5, 0, none⟩) h45' (.bool false)
    have D4 := F4.own (grownBy_putObj' _ D (.deferred none)) (fun r e => by cases e; exact ⟨_, hK', rfl⟩)
    have D5 := F5.own (grownBy_putObj' _ D (.deferred none)) (fun r e => by cases e; exact ⟨_, hK', rfl⟩)
    have hB3 := hB2.trans (belowK_b (w := w) (by rw [HN4.out]; exact Nat.le_refl _) _ D _ (.deferred none) (by rw [HN4.out] at hw2; exact Nat.le_trans hw2 hD) hK' rfl rfl)
    have HH := Lib.hid (And.intro D4 (And.intro D5 (And.intro hK' hB3)))
    have f10 : ((W.setCell ⟨N4, 0, none⟩ (.string ⟨#[]⟩)).frozen? ⟨N4, 1, none⟩) = false := (b4.set_ 0 (.string ⟨#[]⟩)).frozen 1
    clear hys hE hB1 hK b4 b5 F4 F5 hK' hB2 D4 D5 hB3 hB hR HL hWK hAW hSH bB hBx hBs hD
    gi_wp2
    refine ⟨by simp, .inl ⟨_, _, rfl, run_takeDeferred HH.out.2.2.1, ?_⟩⟩
    refine ⟨_, ret_pair2 rfl _ _ N4 N5 (entC none) false rfl rfl HH.out.1 rfl HH.out.2.1, rfl, HH.out.2.2.2.mono (Nat.le_of_eq HN4.out.symm)⟩
  case stop =>
    rintro D c' pre W hD hpre ⟨⟨⟨⟨rfl, ho⟩, h4⟩, h5'⟩, hB1⟩ hK
    have hgl : (pre.map fun x => x.2.1.s).findSome? ownA = goal := by
      obtain ⟨rest, hrest⟩ := hpre
      symm
      rw [← hAW, ← List.map_reverse, ← hrest, List.map_append, List.findSome?_append, List.map_map]
      obtain ⟨o, ho'⟩ := Option.isSome_iff_exists.1 ho
      rw [show List.map ((fun x : StC => x.s) ∘ fun x : Nat × {c // c ∈ L} => x.2.1) pre = pre.map fun x => x.2.1.s from rfl, ho']
      rfl
    rw [hgl] at ho h4
    have hw2 := hB.size
    rw [← HN4.out] at hw2
    have D4 := h4.own (grownBy_putObj' _ D (.deferred none)) (fun r e => by cases e; exact ⟨_, hK, rfl⟩)
    have D5 := h5'.own (grownBy_putObj' _ D (.deferred none)) (fun r e => by cases e; exact ⟨_, hK, rfl⟩)
    have hB3 := hB1.trans (belowK_b (w := w) (by rw [HN4.out]; exact Nat.le_refl _) _ D _ (.deferred none) (by rw [HN4.out] at hw2; exact Nat.le_trans hw2 hD) hK rfl rfl)
    have HH := Lib.hid (And.intro D4 (And.intro D5 (And.intro hK hB3)))
    have HO := Lib.hid ho
    clear hgl hpre ho h4 h5' hB1 hK D4 D5 hB3 hB hR HL hWK hAW hSH bB hBx hBs hD b4 b5
    gi_wp2
    refine ⟨by simp, .inl ⟨_, _, rfl, run_takeDeferred HH.out.2.2.1, ?_⟩⟩
    refine ⟨_, ret_pair2 rfl _ _ N4 N5 (entC goal) true rfl rfl HH.out.1 (by cases goal <;> rfl) HH.out.2.1, congrArg Ending.returned (by rw [entV_eq, HO.out]), HH.out.2.2.2.mono (Nat.le_of_eq HN4.out.symm)⟩
/-- Above of a tree -/
theorem above_any (b : Nat) (t : RX) (key : ByteArray) (w : World) (h : RadT w b t) (hc : Can t) (hs : Shrt 1000 t) (hk : key.size ≤ 1000) :
    Calls Try.prog 30 #[at0 b, .string key] w fun e w' => e = .returned (entV (((body t).filter (gtE key.data.toList)).head?)) ∧ Below w.heap.size w w' := by
  refine callsIn_wide.1 (above_in (at0 b) key _ w fun W hB => (way_any b t key W (h.stay hB) hc hs hk).mono ?_)
  rintro e w' ⟨v, L, rfl, hR, hL, hW, hB1⟩
  refine ⟨v, L, rfl, hR, hL, ⟨?_, way_shrt hW hc (fun e he => by have := hs e he; simpa using this), fun s hs' => by rw [way_key hW s hs', List.nil_append], by rw [above_way hW hc, preE_nil]⟩, hB1⟩
  have := way_len hW hc
  rw [List.length_map] at this
  have h3 : key.data.toList.length = key.size := size_of key
  omega
/-- .. of the tree that isn't there -/
theorem above_nil (key : ByteArray) (w : World) : Calls Try.prog 30 #[.pointer none, .string key] w fun e w' => e = .returned (entV none) ∧ Below w.heap.size w w' := by
  refine callsIn_wide.1 (above_in (.pointer none) key none w fun W hB => (way_nil key W).mono ?_)
  rintro e w' ⟨rfl, hB1⟩
  exact ⟨.slice none 0 0, [], rfl, ⟨rfl, .inl ⟨rfl, rfl⟩⟩, by simp, ⟨by simp, by simp, by simp, by simp⟩, hB1⟩
end Go.Proofs.Ytimhdegdmdilaaa
/- The law's tree and list: the pairs of a slice, cut to few bytes, put one after another. -/
namespace Go.Proofs.Ytimhdegdmdilaaa
open Go.RowKit Go.Lib
set_option linter.unusedVariables false
set_option linter.unnecessarySimpa false
set_option linter.unusedSimpArgs false
set_option linter.unnecessarySimpa false
set_option maxRecDepth 100000
theorem PW.apart29 {w w' : World} {b : Nat} {ps : List Pr} (h : PW w b ps) {g : Nat} {cs : Array Value} (hb : Blk w g 29 cs) (hk : Keep [g] w w') : PW w' b ps :=
  ((h.tx (X' := fun x => x = g) fun x hx => .inr ⟨29, cs, by rw [hx]; exact hb, by decide, by decide⟩).keep hk (by simp)).pw
theorem OwnR.apart29 {base : Nat} {w w' : World} {v : Value} {ps : List Pr} (h : OwnR base w v ps) {g : Nat} {cs : Array Value} (hb : Blk w g 29 cs) (hk : Keep [g] w w') : OwnR base w' v ps :=
  own_keep h hk fun x hx e => by
    simp at hx
    subst hx
    obtain ⟨cur, hc⟩ := own_cells h x e
    unfold Blk at hb
    rw [hc] at hb
    simp at hb
theorem Keep.two (w : World) (g i j : Nat) (u v : Value) : Keep [g] w ((w.setCell ⟨g, i, none⟩ u).setCell ⟨g, j, none⟩ v) := ((Keep.refl [g] w).setCell (p := ⟨g, i, none⟩) (by simp) u).setCell (p := ⟨g, j, none⟩) (by simp) v
/-- the list that the law's tree is made of -/
def gather (X : List Pr) (L : List Pr) : List Pr := L.foldl (fun X q => putK X (few40 q)) X
def pats (ps : List Pr) (j : Nat) : List Pr := (List.range j).map (pat ps)
theorem pats_succ (ps : List Pr) (j : Nat) : pats ps (j + 1) = pats ps j ++ [pat ps j] := by simp [pats, List.range_succ]
theorem gather_succ (ps : List Pr) (j : Nat) : gather [] (pats ps (j + 1)) = putK (gather [] (pats ps j)) (few40 (pat ps j)) := by rw [pats_succ]; simp [gather]
set_option maxHeartbeats 8000000 in
theorem lawtree_any (a1 : Option Addr) (len1 cap1 : Nat) (ps1 : List Pr) (w : World) (hp1 : ArgP w a1 len1 cap1 ps1) (hm : len1 ≤ maxLen) :
    Calls Try.prog 17 #[.slice a1 len1 cap1] w fun e w' => ∃ (b : Nat) (A : Option Addr) (c : Nat) (X : List Pr), e = .returned (.tuple #[at0 b, .slice A X.length c]) ∧ X = gather [] (pats ps1 (min len1 40)) ∧ X.length ≤ 40 ∧ PW w' b X ∧ OwnR w.heap.size w' (.slice A X.length c) X ∧ Below w.heap.size w w' := by
  have HA1 := Lib.hid hp1
  clear hp1
  go_enter Try.func17, Try.ntmps17
  go_wp2_with fail
  refine (empty_any w).mono ?_
  rintro e w2 ⟨b, rfl, hT0, hB⟩
  have hT := PW.empty hT0
  clear hT0
  unfold at0
  go_wp2_with fail
  go_loopw [4, 5, 11] (fun v7 v8 vi wr => ∃ (j bn : Nat) (X : List Pr), j ≤ len1 ∧ vi = .int .i64 j ∧ v7 = .pointer (some ⟨bn, 0, none⟩) ∧ X.length ≤ j ∧ X.length ≤ 40 ∧ Hid (X = gather [] (pats ps1 (min j 40))) ∧ PW wr bn X ∧ OwnR w.heap.size wr v8 X ∧ Below w.heap.size w wr) (fun v7 v8 vi wr => len1 - (RowKit.intOf vi).toNat)
  case atStart => exact ⟨0, b, [], by omega, rfl, rfl, by simp, by simp, Lib.hid (by simp [gather, pats]), hT, OwnR.nil _ _, hB⟩
  case round =>
    clear hT hB
    obtain ⟨j, bq, X, hj, rfl, rfl, hlj, hlX, HX, hTn, hOx, hB⟩ := hrel
    by_cases hlt : j < len1
    · obtain ⟨x, rfl, hpl, c0, c1⟩ := argp_at HA1.out hB j hlt
      have L1 : (j : Int) < (len1 : Int) := by omega
      have L2 : IntKind.i64.wrap ((j : Int) + 1) = ((j + 1 : Nat) : Int) := by rw [IntWalk.i64_in _ (by unfold maxLen at hm; omega)]; omega
      have HSU := Lib.hid (gather_succ ps1 j)
      generalize pat ps1 j = q at *
      go_upto_region 6 with (fail)
      have hBl := (Below.refl _ wr).alloc (Nat.le_refl _) (.cells #[.string q.1, .string q.2] 29)
      have hP := Blk.new wr 29 #[.string q.1, .string q.2]
      have hTn := hTn.below hBl
      have hOx := hOx.below' hBl
      have hNP : w.heap.size ≤ wr.heap.size := hB.size
      have hB := hB.trans (hBl.mono hB.size)
      clear hBl c0 c1 hpl
      generalize wr.alloc (.cells #[.string q.1, .string q.2] 29) = w3 at *
      generalize wr.heap.size = NP at *
      by_cases h25 : j < 40
      · have G : (j : Int) < 40 := by omega
        have hp1 : (few40 q).1.size ≤ 40 := cut40_size q.1
        have hp2 : (few40 q).2.size ≤ 40 := cut40_size q.2
        have kfew : ∀ w', Calls Try.prog 18 #[.agg #[.string q.1, .string q.2]] w' fun e w'' => e = .returned (.agg #[.string (few40 q).1, .string (few40 q).2]) ∧ Below w'.heap.size w' w'' := fun w' => few_any q.1 q.2 w'
        have HXn : Hid (putK X (few40 q) = gather [] (pats ps1 (min (j + 1) 40))) := Lib.hid (by rw [HX.out, show min (j + 1) 40 = j + 1 by omega, show min j 40 = j by omega, HSU.out])
        clear HSU HX
        generalize few40 q = p at *
        have p0 : w3.cell? ⟨NP, 0, none⟩ = some (.string q.1) := hP.cell 0
        have p1 : w3.cell? ⟨NP, 1, none⟩ = some (.string q.2) := hP.cell 1
        go_wp2_with fail
        refine (kfew _).mono ?_
        rintro e w4 ⟨rfl, hB4⟩
        have hTn := hTn.below hB4
        have hOx := hOx.below' hB4
        have hP := hP.below hB4
        have hB := hB.trans (hB4.mono hB.size)
        clear p0 p1 hB4 kfew
        have p0 := hP.cell 0
        have p1 := hP.cell 1
        have f0 := hP.frozen 0
        have f1 := hP.frozen 1
        go_upto_region 8 with (fail)
        have hk2 := Keep.two w4 NP 0 1 (.string p.1) (.string p.2)
        have hTn := hTn.apart29 hP hk2
        have hOx := hOx.apart29 hP hk2
        have hP := hP.set2 (.string p.1) (.string p.2)
        have hB := (hB.setCell (p := ⟨NP, 0, none⟩) hNP (.string p.1)).setCell (p := ⟨NP, 1, none⟩) hNP (.string p.2)
        clear p0 p1 f0 f1 hk2
        generalize (w4.setCell ⟨NP, 0, none⟩ (.string p.1)).setCell ⟨NP, 1, none⟩ (.string p.2) = w5 at *
        have p0 : w5.cell? ⟨NP, 0, none⟩ = some (.string p.1) := hP.cell 0
        have p1 : w5.cell? ⟨NP, 1, none⟩ = some (.string p.2) := hP.cell 1
        have kp := put_list hTn (.pointer none) p.1 p.2 (.inl rfl) hp1 hp2
        simp only [at0] at kp
        go_wp2_with fail
        refine kp.mono ?_
        rintro e w6 ⟨b1, rfl, -, hT1, hB5⟩
        have hzX := hTn.keys
        have hOx := hOx.below' hB5
        have hP := hP.below hB5
        have hB := hB.trans (hB5.mono hB.size)
        clear kp hB5 hTn p0 p1
        generalize (getR X p.1).isNone = gb at *
        have p0 : w6.cell? ⟨NP, 0, none⟩ = some (.string p.1) := hP.cell 0
        have p1 : w6.cell? ⟨NP, 1, none⟩ = some (.string p.2) := hP.cell 1
        obtain ⟨A', c', e', hR⟩ := hOx.rd
        subst e'
        have kr := refPut_any A' c' X p w6 hR (by omega) (sized_mem fun x hx => Nat.le_trans (hzX x hx) (by unfold maxLen; omega)) (by unfold maxLen; omega)
        unfold Pr.v at kr
        clear hP hR hOx
        go_wp2_with fail
        refine kr.mono ?_
        rintro e w7 ⟨v7, rfl, hO7, hB7⟩
        have hbz := hB.size
        have hB := hB.trans (hB7.mono hB.size)
        have hT1 := hT1.below hB7
        have hO7 := OwnR.base hO7 hbz
        clear kr hB7 p0 p1
        go_wp2_with fail
        refine ⟨⟨j + 1, b1, putK X p, by omega, by go_num, rfl, ?_, ?_, HXn, hT1, hO7, hB⟩, by simp [RowKit.intOf]; omega⟩
        · have := put_lenR X p
          omega
        · have := put_lenR X p
          omega
      · have G : ¬ ((j : Int) < 40) := by omega
        have HXn : Hid (X = gather [] (pats ps1 (min (j + 1) 40))) := Lib.hid (by rw [HX.out, show min (j + 1) 40 = 40 by omega, show min j 40 = 40 by omega])
        clear hP HX HSU
        go_wp2_with fail
        exact ⟨⟨j + 1, bq, X, by omega, by go_num, rfl, by omega, hlX, HXn, hTn, hOx, hB⟩, by simp [RowKit.intOf]; omega⟩
    · obtain rfl : j = len1 := by omega
      have G : ¬ ((j : Int) < (j : Int)) := by omega
      obtain ⟨A8, c8, e8, -⟩ := hOx.rd
      subst e8
      clear HA1
      have HH := Lib.hid (And.intro HX.out (And.intro hlX (And.intro hTn (And.intro hOx hB))))
      clear HX hTn hOx hB
      go_wp2_with fail
      refine bodyPost_ret (v := .tuple #[.pointer (some ⟨bq, 0, none⟩), .slice A8 X.length c8]) (by simp [results, Try.f17, go_sem]) rfl ?_
      exact ⟨bq, A8, c8, X, rfl, HH.out.1, HH.out.2.1, HH.out.2.2.1, HH.out.2.2.2.1, HH.out.2.2.2.2⟩
end Go.Proofs.Ytimhdegdmdilaaa
