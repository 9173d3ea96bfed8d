/- Lists of acts, of strings and of bytes that were handed in. -/
import Derived.Test.YtfmbikmpobieoaaGreatMY
import Derived.SliceStrings
namespace Go.Proofs.YtfmbikmpobieoaaGreat
open Go.ChangeShapes Go.WideShapes Go.RowKit Go.Lib Go.Deep
set_option linter.unusedVariables false
set_option linter.unusedSimpArgs false
set_option maxRecDepth 100000
/-- an act's cells behind an address -/
def ActAt (w : World) (x : Addr) : Prop := ∃ (dd ka : Nat) (q : Pr) (ow : Bool), dd < 256 ∧ ka < 256 ∧ ∀ (k : Nat) (u : Value), [Value.int .u8 dd, .string q.1, .string q.2, .int .u8 ka, .bool ow][k]? = some u → w.cell? (x.add k) = some u
def ArgA (w : World) (a : Option Addr) (len cap : Nat) : Prop :=
  (a = none ∧ len = 0 ∧ cap = 0) ∨ ∃ x, a = some x ∧ len ≤ cap ∧ cap ≤ maxLen ∧ ∀ j, j < len → ActAt w (x.add (j * 5))
theorem ActAt.below {w w' : World} {x : Addr} (h : ActAt w x) (hb : Below w.heap.size w w') : ActAt w' x := by
  obtain ⟨dd, ka, q, ow, h1, h2, hc⟩ := h
  exact ⟨dd, ka, q, ow, h1, h2, fun k u hk => (hb.cell (World.block_lt_of_cell? w _ (hc k u hk))).trans (hc k u hk)⟩
theorem ArgA.below {w w' : World} {a : Option Addr} {len cap : Nat} (h : ArgA w a len cap) (hb : Below w.heap.size w w') : ArgA w' a len cap := by
  rcases h with h | ⟨x, rfl, h1, h2, h3⟩
  · exact .inl h
  · exact .inr ⟨x, rfl, h1, h2, fun j hj => (h3 j hj).below hb⟩
theorem ArgA.len_le {w : World} {a : Option Addr} {len cap : Nat} (h : ArgA w a len cap) : len ≤ maxLen := by
  rcases h with ⟨_, h, _⟩ | ⟨x, rfl, hl, hm, _⟩
  · omega
  · omega
/-- the act at a place, as the walk spells its cells -/
theorem ArgA.at {w wr : World} {a : Option Addr} {len cap : Nat} (h : ArgA w a len cap) (hB : Below w.heap.size w wr) (j : Nat) (hj : j < len) :
    ∃ (x : Addr) (dd ka : Nat) (q : Pr) (ow : Bool), a = some x ∧ dd < 256 ∧ ka < 256 ∧ wr.cell? (x.add (j * 5)) = some (.int .u8 dd) ∧ wr.cell? ⟨(x.add (j * 5)).block, (x.add (j * 5)).off + 1, none⟩ = some (.string q.1) ∧ wr.cell? ⟨(x.add (j * 5)).block, (x.add (j * 5)).off + 2, none⟩ = some (.string q.2) ∧ wr.cell? ⟨(x.add (j * 5)).block, (x.add (j * 5)).off + 3, none⟩ = some (.int .u8 ka) ∧ wr.cell? ⟨(x.add (j * 5)).block, (x.add (j * 5)).off + 4, none⟩ = some (.bool ow) := by
  rcases h with ⟨_, h, _⟩ | ⟨x, rfl, hl, hm, hA⟩
  · omega
  · obtain ⟨dd, ka, q, ow, h1, h2, hc⟩ := (hA j hj).below hB
    exact ⟨x, dd, ka, q, ow, rfl, h1, h2, hc 0 _ rfl, hc 1 _ rfl, hc 2 _ rfl, hc 3 _ rfl, hc 4 _ rfl⟩
theorem u8_nat {n : Int} (h : (Lit.int .u8 n).wf = true) : ∃ m : Nat, n = m ∧ m < 256 := by
  simp [Lit.wf, IntKind.min, IntKind.max, IntKind.signed, IntKind.bits] at h
  exact ⟨n.toNat, by omega, by omega⟩
theorem fields36 : ∃ f0 f1 f2 f3, Tryz.prog.underlying 36 = some (.struct #[f0, f1, f2, f3]) ∧ (f0.offset = 0 ∧ f1.offset = 1 ∧ f2.offset = 3 ∧ f3.offset = 4) ∧ f0.type = 5 ∧ f1.type = 34 ∧ f2.type = 5 ∧ f3.type = 4 := ⟨_, _, _, _, Tryz.underlying36, ⟨rfl, rfl, rfl, rfl⟩, rfl, rfl, rfl, rfl⟩
theorem cellsOf36 : Tryz.prog.cellsOf 36 = 5 := by kernel_rfl
theorem cellsOf5 : Tryz.prog.cellsOf 5 = 1 := by kernel_rfl
theorem cellsOf4 : Tryz.prog.cellsOf 4 = 1 := by kernel_rfl
theorem cellsOf34 : Tryz.prog.cellsOf 34 = 2 := by kernel_rfl
theorem cellsOf9 : Tryz.prog.cellsOf 9 = 1 := by kernel_rfl
theorem list2 {α : Type} (l : List α) (h : l.length = 2) : ∃ a b, l = [a, b] := by
  rcases l with _ | ⟨a, _ | ⟨b, _ | ⟨c, l⟩⟩⟩ <;> first | (exact ⟨_, _, rfl⟩) | (simp at h)
theorem list4 {α : Type} (l : List α) (h : l.length = 4) : ∃ a b c d, l = [a, b, c, d] := by
  rcases l with _ | ⟨a, _ | ⟨b, _ | ⟨c, _ | ⟨d, _ | ⟨e, l⟩⟩⟩⟩⟩ <;> first | (exact ⟨_, _, _, _, rfl⟩) | (simp at h)
theorem list5 {α : Type} (l : List α) (h : l.length = 5) : ∃ a b c d e, l = [a, b, c, d, e] := by
  rcases l with _ | ⟨a, l⟩
  · simp at h
  · obtain ⟨b, c, d, e, rfl⟩ := list4 l (by simpa using h)
    exact ⟨_, _, _, _, _, rfl⟩
theorem open_acts {H : Type} {enc : TypeId × Value → H} {W : World} {base : Nat} {spare : Nat → Bool} {held : Bool} {a : Option Addr} {len cap : Nat} {d : DataW H} {p : List MemPlace}
    (h : DataW.Trod enc Tryz.prog W base spare held 27 (.slice a len cap) d p) : ArgA W a len cap := by
  obtain ⟨fuel, hf⟩ := h
  rcases open_slice Tryz.underlying27 hf with ⟨hcs, _⟩ | ⟨x, l, c, m, n, D, Pl, hcs, _, hl, hm, hmm, _, hx⟩
  · simp [Value.cells] at hcs
    obtain ⟨rfl, rfl, rfl⟩ := hcs
    exact .inl ⟨rfl, rfl, rfl⟩
  · simp [Value.cells] at hcs
    obtain ⟨rfl, rfl, rfl⟩ := hcs
    have hlm : len ≤ m := by rw [hmm]; split <;> omega
    refine .inr ⟨x, rfl, hl, hm, fun j hj => ?_⟩
    obtain ⟨cs', h1, h2⟩ := hx j (by omega)
    rw [cellsOf36] at h1
    obtain ⟨_, hlen, hcell⟩ := World.cells?_some h1
    obtain ⟨f0, f1, f2, f3, hu, ⟨o0, o1, o2, o3⟩, t0, t1, t2, t3⟩ := fields36
    obtain ⟨xs, k, hk, hxy, _, hxl, hff⟩ := DataW.trod_struct hu h2
    obtain ⟨y0, y1, y2, y3, rfl⟩ := list4 xs hxl
    obtain ⟨v0, v1, v2, v3, v4, rfl⟩ := list5 cs' hlen
    have g0 := hff 0 f0 rfl
    have g1 := hff 1 f1 rfl
    have g2 := hff 2 f2 rfl
    have g3 := hff 3 f3 rfl
    simp [o0, o1, o2, o3, t0, t1, t2, t3, cellsOf5, cellsOf4, cellsOf34] at g0 g1 g2 g3
    obtain ⟨n0, e0, _, b0⟩ := DataW.trod_int Tryz.underlying5 g0
    obtain ⟨n2, e2, _, b2⟩ := DataW.trod_int Tryz.underlying5 g2
    obtain ⟨n3, e3, _⟩ := DataW.trod_bool Tryz.underlying4 g3
    obtain ⟨F0, F1, hu2, p0, p1, s0, s1⟩ := fields33
    obtain ⟨ys, k2, _, _, _, hyl, hgg⟩ := DataW.trod_struct hu2 g1
    obtain ⟨z0, z1, rfl⟩ := list2 ys hyl
    have q0 := hgg 0 F0 rfl
    have q1 := hgg 1 F1 rfl
    simp [p0, p1, s0, s1, cellsOf9] at q0 q1
    obtain ⟨S0, E0, _, B0⟩ := DataW.trod_string Tryz.underlying9 q0
    obtain ⟨S1, E1, _, B1⟩ := DataW.trod_string Tryz.underlying9 q1
    obtain ⟨m0, rfl, l0⟩ := u8_nat b0
    obtain ⟨m2, rfl, l2⟩ := u8_nat b2
    simp at e0 e2 e3 E0 E1
    refine ⟨m0, m2, (S0, S1), n3, l0, l2, fun kk u hu => ?_⟩
    subst e0 e2 e3 E0 E1
    have hkk := (List.getElem?_eq_some_iff.1 hu).1
    have := hcell kk (by simpa using hkk)
    rw [this]
    exact hu
/-- strings that were handed in -/
def ArgS (w : World) (a : Option Addr) (len cap : Nat) (ss : List ByteArray) : Prop :=
  (a = none ∧ len = 0 ∧ cap = 0 ∧ ss = []) ∨
  ∃ x, a = some x ∧ ss.length = len ∧ len ≤ cap ∧ cap ≤ maxLen ∧ (∀ j u, ss[j]? = some u → w.cell? (x.add j) = some (.string u)) ∧ ∀ s ∈ ss, s.size ≤ maxLen
theorem open_strs {H : Type} {enc : TypeId × Value → H} {W : World} {base : Nat} {spare : Nat → Bool} {held : Bool} {a : Option Addr} {len cap : Nat} {d : DataW H} {p : List MemPlace}
    (h : DataW.Trod enc Tryz.prog W base spare held 28 (.slice a len cap) d p) : ∃ ss, ArgS W a len cap ss := by
  obtain ⟨fuel, hf⟩ := h
  rcases open_strings Tryz.underlying28 Tryz.underlying9 (by kernel_rfl) hf with ⟨hcs, _⟩ | ⟨x, l, c, zs, hcs, _, hl, hm, hz, _, hcell, hwz⟩
  · simp [Value.cells] at hcs
    obtain ⟨rfl, rfl, rfl⟩ := hcs
    exact ⟨[], .inl ⟨rfl, rfl, rfl, rfl⟩⟩
  · simp [Value.cells] at hcs
    obtain ⟨rfl, rfl, rfl⟩ := hcs
    have hz' : len ≤ zs.length := by rw [hz]; split <;> omega
    refine ⟨zs.take len, .inr ⟨_, rfl, by rw [List.length_take]; omega, hl, hm, fun j u hj => ?_, fun s hs => hwz s (List.mem_of_mem_take hs)⟩⟩
    rw [List.getElem?_take] at hj
    split at hj
    · obtain ⟨hjl, he⟩ := List.getElem?_eq_some_iff.1 hj
      rw [hcell j hjl, List.getD_eq_getElem?_getD, hj]; rfl
    · cases hj
theorem ArgS.at {w wr : World} {a : Option Addr} {len cap : Nat} {ss : List ByteArray} (h : ArgS w a len cap ss) (hB : Below w.heap.size w wr) (j : Nat) (hj : j < len) : ∃ (x : Addr) (s : ByteArray), a = some x ∧ wr.cell? (x.add j) = some (.string s) := by
  rcases h with ⟨_, h, _⟩ | ⟨x, rfl, hl, _, _, hc, _⟩
  · omega
  · have := hc j ss[j] (List.getElem?_eq_getElem (by omega))
    exact ⟨x, _, rfl, (hB.cell (World.block_lt_of_cell? w _ this)).trans this⟩
theorem ArgS.len_le {w : World} {a : Option Addr} {len cap : Nat} {ss : List ByteArray} (h : ArgS w a len cap ss) : len ≤ maxLen := by
  rcases h with ⟨_, h, _⟩ | ⟨x, rfl, _, hl, hm, _⟩
  · omega
  · omega
end Go.Proofs.YtfmbikmpobieoaaGreat
