/- Calls with the nil token leave every node as it is. -/
import Derived.Test.YtgldgdpgbfejmaaMW
namespace Go.Proofs.Ytgldgdpgbfejmaa
open Go.RowKit Go.Lib Go.Conc
set_option linter.unusedVariables false
set_option linter.unusedSimpArgs false
/-- a call that leaves all that was there -/
def Leaves (w : World) (e : Ending) (w' : World) : Prop := ∃ v, e = .returned v ∧ Below w.heap.size w w'
section
variable {base : Nat} {w w' : World} {p c : Nat} {ts : List (Option Nat)} {lv : List Bool} {bl : List Nat} {nb : NB} {r : RN}
theorem NodeIs.nilSet (h : NodeIs base w ts bl nb r) (hT : Tks w p c ts lv) (ho : r.ow < 5) (hbase : base ≤ w.heap.size) (i : Int) (q : Pr) :
    Calls Try.prog 18 #[at0 nb.b, .pointer none, .int .i64 i, q.v] w (Leaves w) := by
  obtain ⟨-, -, t2, -⟩ := hT.tv r.ow ho
  by_cases hi : r.bk = true ∨ i < 0 ∨ 32 ≤ i
  · obtain ⟨d, nn, xs, ks, hv, -, -⟩ := h.ndv
    refine (setPair_out base nb.b i q _ (.pointer none) r.bk d nn nb.pv nb.kv xs ks w hv hi).mono ?_
    rintro e w' ⟨rfl, hB⟩
    exact ⟨_, rfl, hB⟩
  · obtain ⟨e1, e2⟩ := nat_of hi
    have hc := Inn.setPair base nb.b i.toNat _ none _ false _ nb.pv nb.kv w (h.inner (fun e => hi (.inl e))).2 (TV.nil _) t2 e2 hbase q
    rw [e1] at hc
    refine hc.mono ?_
    rintro e w' ⟨b1, pv1, kv1, rfl, -, hc⟩
    exact ⟨_, rfl, hc.keepNew⟩
theorem NodeIs.nilKid (h : NodeIs base w ts bl nb r) (hT : Tks w p c ts lv) (ho : r.ow < 5) (hbase : base ≤ w.heap.size) (i : Int) (kb : Nat) :
    Calls Try.prog 19 #[at0 nb.b, .pointer none, .int .i64 i, at0 kb] w (Leaves w) := by
  obtain ⟨-, -, t2, -⟩ := hT.tv r.ow ho
  by_cases hi : r.bk = true ∨ i < 0 ∨ 32 ≤ i
  · obtain ⟨d, nn, xs, ks, hv, -, -⟩ := h.ndv
    refine (setKid_out base nb.b i kb _ (.pointer none) r.bk d nn nb.pv nb.kv xs ks w hv hi).mono ?_
    rintro e w' ⟨rfl, rfl⟩
    exact ⟨_, rfl, Below.refl _ _⟩
  · obtain ⟨e1, e2⟩ := nat_of hi
    have hc := Inn.setKid base nb.b i.toNat _ none _ false _ nb.pv nb.kv w (h.inner (fun e => hi (.inl e))).2 (TV.nil _) t2 e2 hbase kb
    rw [e1] at hc
    refine hc.mono ?_
    rintro e w' ⟨b1, pv1, kv1, rfl, -, hc⟩
    exact ⟨_, rfl, hc.keepNew⟩
theorem NodeIs.nilClear (h : NodeIs base w ts bl nb r) (hT : Tks w p c ts lv) (ho : r.ow < 5) (hbase : base ≤ w.heap.size) (i : Int) :
    Calls Try.prog 21 #[at0 nb.b, .pointer none, .int .i64 i] w (Leaves w) := by
  obtain ⟨-, -, t2, -⟩ := hT.tv r.ow ho
  by_cases hi : r.bk = true ∨ i < 0 ∨ 32 ≤ i
  · obtain ⟨d, nn, xs, ks, hv, -, -⟩ := h.ndv
    refine (clear_out base nb.b i _ (.pointer none) r.bk d nn nb.pv nb.kv xs ks w hv hi).mono ?_
    rintro e w' ⟨rfl, rfl⟩
    exact ⟨_, rfl, Below.refl _ _⟩
  · obtain ⟨e1, e2⟩ := nat_of hi
    have hc := Inn.clear base nb.b i.toNat _ none _ false _ nb.pv nb.kv w (h.inner (fun e => hi (.inl e))).2 (TV.nil _) t2 e2 hbase
    rw [e1] at hc
    refine hc.mono ?_
    rintro e w' ⟨b1, pv1, kv1, rfl, -, hc⟩
    exact ⟨_, rfl, hc.keepNew⟩
theorem NodeIs.nilPut (h : NodeIs base w ts bl nb r) (hT : Tks w p c ts lv) (ho : r.ow < 5) (hbase : base ≤ w.heap.size) (q : Pr) (hl : r.L.length ≤ 800) :
    Calls Try.prog 22 #[at0 nb.b, .pointer none, q.v] w (Leaves w) := by
  obtain ⟨-, -, t2, -⟩ := hT.tv r.ow ho
  by_cases hb : r.bk = true
  · obtain ⟨-, h1, h2⟩ := h.bucket hb
    refine (put_in base nb.b q _ none _ false 0 0 nb.pv nb.kv r.L [] w h1 (TV.nil _) t2 h2 hl (by simp) hbase).mono ?_
    rintro e w' ⟨b1, pv1, kv1, rfl, -, hc⟩
    exact ⟨_, rfl, hc.keepNew⟩
  · obtain ⟨d, nn, xs, ks, hv, -, -⟩ := h.ndv
    have e : r.bk = false := by simpa using hb
    rw [e] at hv
    refine (put_out base nb.b q _ (.pointer none) d nn nb.pv nb.kv xs ks w hv).mono ?_
    rintro e w' ⟨rfl, hB⟩
    exact ⟨_, rfl, hB⟩
theorem NodeIs.nilDrop (h : NodeIs base w ts bl nb r) (hT : Tks w p c ts lv) (ho : r.ow < 5) (hbase : base ≤ w.heap.size) (k : ByteArray) (hl : r.L.length ≤ 800) :
    Calls Try.prog 23 #[at0 nb.b, .pointer none, .string k] w (Leaves w) := by
  obtain ⟨-, -, t2, -⟩ := hT.tv r.ow ho
  by_cases hb : r.bk = true
  · obtain ⟨-, h1, h2⟩ := h.bucket hb
    refine (drop_in base nb.b k _ none _ false 0 0 nb.pv nb.kv r.L [] w h1 (TV.nil _) t2 h2 hl (by simp) hbase).mono ?_
    rintro e w' ⟨b1, pv1, kv1, rfl, -, hc⟩
    exact ⟨_, rfl, hc.keepNew⟩
  · obtain ⟨d, nn, xs, ks, hv, -, -⟩ := h.ndv
    have e : r.bk = false := by simpa using hb
    rw [e] at hv
    refine (drop_out base nb.b k _ (.pointer none) d nn nb.pv nb.kv xs ks w hv).mono ?_
    rintro e w' ⟨rfl, rfl⟩
    exact ⟨_, rfl, Below.refl _ _⟩
end
/-- a row of one's own, into which one may write -/
def Wr (w0 : World) (w : World) (ty sz : Nat) (A : Option Addr) (n : Nat) : Prop := 0 < n → ∃ g cur, A = some ⟨g, 0, none⟩ ∧ w0.heap.size ≤ g ∧ Blk w g ty cur ∧ n * sz ≤ cur.size
theorem Wr.of {w0 w : World} {ty sz n c : Nat} {A : Option Addr} {xs : List Value} (h : w.ownsRow w0.heap.size ty sz (.slice A n c) n xs) : Wr w0 w ty sz A n := fun hn => by
  obtain ⟨g, cap, cur, e, hg, hB, hc, hcm, hs, -⟩ := own_blk h hn
  cases e
  exact ⟨g, cur, rfl, hg, hB, by rw [hs]; exact Nat.mul_le_mul_right _ hc⟩
theorem Wr.below {w0 w w' : World} {ty sz n : Nat} {A : Option Addr} (h : Wr w0 w ty sz A n) (hb : Below w.heap.size w w') : Wr w0 w' ty sz A n := fun hn => by
  obtain ⟨g, cur, e, hg, hB, hs⟩ := h hn
  exact ⟨g, cur, e, hg, hB.below hb, hs⟩
theorem Wr.stored {w0 w : World} {ty sz n : Nat} {A : Option Addr} (h : Wr w0 w ty sz A n) (g i : Nat) (u : Value) : Wr w0 (w.setCell ⟨g, i, none⟩ u) ty sz A n := fun hn => by
  obtain ⟨g', cur, e, hg, hB, hs⟩ := h hn
  by_cases hgg : g' = g
  · subst hgg
    exact ⟨g', _, e, hg, hB.set_ i u, by simpa using hs⟩
  · exact ⟨g', cur, e, hg, hB.far hgg u, hs⟩
theorem Few.mono {m m' : Nat} {ns : List (RN × Value)} (h : Few m ns) (hm : m ≤ m') : Few m' ns := ⟨⟨h.1.1, by have := h.1.2; omega⟩, fun r hr => Nat.le_trans (h.2 r hr) hm⟩
end Go.Proofs.Ytgldgdpgbfejmaa
