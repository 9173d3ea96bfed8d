/- The first and the last pair below a node. -/
import Derived.Test.YtimhdegdmdilaaaHao
import Derived.Test.YtimhdegdmdilaaaHaq
import Derived.Laws.ResultCell
import Derived.Laws.Rows
namespace Go.Proofs.Ytimhdegdmdilaaa
open Go.RowKit Go.Lib
set_option linter.unusedVariables false
set_option linter.unnecessarySimpa false
set_option linter.unusedSimpArgs false
set_option linter.unnecessarySimpa false
set_option maxRecDepth 100000
def nums (p : List UInt8) : List Nat := p.map UInt8.toNat
def strOf (p : List UInt8) : ByteArray := ⟨p.toArray⟩
theorem nums_app (p q : List UInt8) : nums (p ++ q) = nums p ++ nums q := by simp [nums]
theorem nums_len (p : List UInt8) : (nums p).length = p.length := by simp [nums]
theorem strB_nums {s : ByteArray} {p : List UInt8} (h : s.data.toList = p) : strB s = nums p := by unfold strB nums; rw [h]
theorem strOf_data (p : List UInt8) : (strOf p).data.toList = p := by simp [strOf]
theorem strOf_self {s : ByteArray} {p : List UInt8} (h : s.data.toList = p) : strOf p = s := bytes_ext (by rw [strOf_data, h])
theorem bytS_nums (p : List UInt8) : bytS (nums p) = strOf p := by
  apply bytes_ext
  rw [strOf_data]
  unfold bytS nums
  rw [strOfNums_data, List.map_map, List.map_map]
  conv => rhs; rw [← List.map_id p]
  exact List.map_congr_left fun x _ => by simp
def sliceLen : Value → Nat | .slice _ n _ => n | _ => 0
/-- a pair's box and whether it is there, returned -/
theorem ret_pair {fn : Func} (h : fn.results = #[.cell 4 29, .tmp 5]) (tmps : Array Value) (w : World) (g : Nat) (cs : Array Value) (hp : tmps.getD 4 undef = .pointer (some ⟨g, 0, none⟩)) (hg : w.heap[g]? = some (.cells cs 29 (0, 0))) (hi : cs.size = 2) :
    (results fn tmps).run Try.prog w = .ok (.tuple #[.agg cs, tmps.getD 5 undef]) w := by
  have h29 : (Try.prog.info? 29).map (·.size) = some cs.size := by rw [hi]; kernel_rfl
  have hl := run_loadVar_row (P := Try.prog) w g 29 29 cs (0, 0) _ hg Try.underlying29 rfl h29
  rw [results_cell_tmp h, hp]
  simp [asAddr, Result.andThen, hl]
theorem Blk.set2 {w : World} {g : Nat} {x y : Value} (h : Blk w g 29 #[x, y]) (a b : Value) : Blk ((w.setCell ⟨g, 0, none⟩ a).setCell ⟨g, 1, none⟩ b) g 29 #[a, b] := by
  have h' : w.heap[g]? = some (.cells #[x, y] 29 (0, 0)) := h
  unfold Blk
  simp [World.setCell, h', Array.getElem?_modify]
/-- an entry as the program returns it -/
def entV : Option Ent → Value
  | some e => .tuple #[.agg #[.string (strOf e.1), .string e.2], .bool true]
  | none => .tuple #[.agg #[.string ⟨#[]⟩, .string ⟨#[]⟩], .bool false]
/-- what is known on the way to the first or the last pair -/
structure EndW (w : World) (M : Nat) (b : Nat) (t : RX) (p : List UInt8) : Prop where
  rad : RadT w b t
  can : Can t
  len : p.length ≤ M
  all : ∀ e ∈ body t, p.length + e.1.length ≤ M
theorem EndW.below {w w' : World} {M b : Nat} {t : RX} {p : List UInt8} (h : EndW w M b t p) (hb : Below w.heap.size w w') : EndW w' M b t p := ⟨h.rad.stay hb, h.can, h.len, h.all⟩
theorem kid_some {t k : RX} (hc : Can t) (hk : k ∈ t.kids) : ∃ e, e ∈ body k := by
  refine body_some k (hc.kids k hk) ?_
  rcases (hc.kd k hk).2 with h | h
  · exact .inl h
  · exact .inr (by omega)
theorem EndW.kid {w : World} {M b c : Nat} {t k : RX} {p : List UInt8} (h : EndW w M b t p) (hk : k ∈ t.kids) (hr : RadT w c k) : EndW w M c k (p ++ k.lab) := by
  have ha : ∀ e ∈ body k, (p ++ k.lab).length + e.1.length ≤ M := fun e he => by
    have := h.all (k.lab ++ e.1, e.2) (body_mem.2 (.inr ⟨k, hk, e.1, he, rfl⟩))
    simp at this ⊢
    omega
  obtain ⟨e, he⟩ := kid_some h.can hk
  have := ha e he
  exact ⟨hr, h.can.kids k hk, by omega, ha⟩
theorem EndW.grown {w w' : World} {M b base : Nat} {t : RX} {p : List UInt8} {v : Value} {L : List Nat} (h : EndW w M b t p) (ho : OwnM base w v L) (hg : w.grownBy w' v.ownBlock) : EndW w' M b t p :=
  ⟨h.rad.kept (keep_grown hg) (fun x hx ty cs hB => by
    obtain ⟨-, cur, fz, hc⟩ := ho.lt x (by simpa using hx)
    unfold Blk at hB
    rw [hc] at hB
    simp at hB
    rw [← hB.2.1]
    exact ⟨by decide, by decide⟩), h.can, h.len, h.all⟩
theorem head_val {t : RX} {v : ByteArray} (h : t.val = some v) : (body t).head? = some ([], v) := by rw [body_eq, h]; rfl
theorem head_kid {t k : RX} {ks : List RX} (h : t.val = none) (hk : t.kids = k :: ks) (hc : Can t) : (body t).head? = ((body k).head?).map (preE k.lab) := by
  rw [body_eq, h, hk, bodyL_cons]
  obtain ⟨e, he⟩ := kid_some hc (k := k) (by rw [hk]; simp)
  cases hb : body k with
  | nil => rw [hb] at he; simp at he
  | cons x xs => simp [vals]
theorem head_none {t : RX} (h : t.val = none) (hk : t.kids = []) : (body t).head? = none := by rw [body_eq, h, hk]; simp [vals, bodyL]
theorem last_kid {t k : RX} {ks : List RX} (hk : t.kids = ks ++ [k]) (hc : Can t) : (body t).getLast? = ((body k).getLast?).map (preE k.lab) := by
  rw [body_eq, hk, bodyL_append, bodyL_cons]
  obtain ⟨e, he⟩ := kid_some hc (k := k) (by rw [hk]; simp)
  have : (body k).map (preE k.lab) ++ bodyL [] = (body k).map (preE k.lab) := by simp [bodyL]
  rw [this, ← List.append_assoc, List.getLast?_append, List.getLast?_map]
  cases hb : (body k).getLast? with
  | none => rw [List.getLast?_eq_none_iff] at hb; rw [hb] at he; simp at he
  | some x => simp
theorem last_here {t : RX} (hk : t.kids = []) : (body t).getLast? = (vals t.val).getLast? := by rw [body_eq, hk]; simp [bodyL]
/-- the world behind the conversion of the key -/
abbrev keyW (w : World) (key : ByteArray) : World := bytesWorld (w.alloc (.cells #[.string ⟨#[]⟩, .string ⟨#[]⟩] 29)) 5 key
theorem key_start (b : Nat) (t : RX) (key : ByteArray) (w : World) (h : RadT w b t) (hc : Can t) (hs : Shrt 1000 t) (hk : key.size ≤ 1000) :
    EndW (keyW w key) 2000 b t key.data.toList ∧ Blk (keyW w key) w.heap.size 29 #[.string ⟨#[]⟩, .string ⟨#[]⟩] ∧ Below w.heap.size w (keyW w key) ∧
    OwnM w.heap.size (keyW w key) (.slice (some ⟨w.heap.size + 1, 0, none⟩) key.size (grownCap (w.alloc (.cells #[.string ⟨#[]⟩, .string ⟨#[]⟩] 29)) key.size 0 5)) (nums key.data.toList) := by
  have hkl : key.data.toList.length = key.size := size_of key
  have hB0 := (Below.refl _ w).alloc (Nat.le_refl _) (.cells #[.string ⟨#[]⟩, .string ⟨#[]⟩] 29)
  have bR := Blk.new w 29 #[.string ⟨#[]⟩, .string ⟨#[]⟩]
  have hp := OwnM.new (w.alloc (.cells #[.string ⟨#[]⟩, .string ⟨#[]⟩] 29)) key w.heap.size hB0.size (by omega)
  have hb1 := bytes_below (w.alloc (.cells #[.string ⟨#[]⟩, .string ⟨#[]⟩] 29)) key
  have hE : EndW w 2000 b t key.data.toList := ⟨h, hc, by omega, fun e he => by have := hs e he; omega⟩
  rw [World.size_alloc, strB_nums rfl] at hp
  exact ⟨hE.below (hB0.trans (hb1.mono hB0.size)), bR.below hb1, hB0.trans (hb1.mono hB0.size), hp⟩
set_option maxHeartbeats 4000000 in
theorem nfirst_any (b : Nat) (t : RX) (key : ByteArray) (w : World) (h : RadT w b t) (hc : Can t) (hs : Shrt 1000 t) (hk : key.size ≤ 1000) :
    Calls Try.prog 62 #[at0 b, .string key] w fun e w' => e = .returned (entV (((body t).head?).map (preE key.data.toList))) ∧ Below w.heap.size w w' := by
  obtain ⟨goal, hgoal⟩ : ∃ g, g = ((body t).head?).map (preE key.data.toList) := ⟨_, rfl⟩
  rw [← hgoal]
  have hcv := Go.Lib.run_convert_string_bytes (P := Try.prog) (w.alloc (.cells #[.string ⟨#[]⟩, .string ⟨#[]⟩] 29)) 9 79 5 key Try.underlying9 Try.underlying79 Try.underlying5
  obtain ⟨hE, bR, hB, hp⟩ := key_start b t key w h hc hs hk
  have HE := Lib.hid hE
  have HR := Lib.hid bR
  have HB := Lib.hid hB
  have HP := Lib.hid hp
  have HG := Lib.hid hgoal
  clear h hc hs hE bR hB hp hgoal
  rw [World.size_alloc] at hcv
  unfold at0
  go_enter Try.func62, Try.ntmps62
  go_wp2_with fail
  clear hcv
  obtain ⟨W0, hW0⟩ : ∃ W0, W0 = keyW w key := ⟨_, rfl⟩
  rw [show bytesWorld (w.alloc (.cells #[.string ⟨#[]⟩, .string ⟨#[]⟩] 29)) 5 key = W0 from hW0.symm]
  rw [← hW0] at HE HR HB HP
  obtain ⟨NR, hNR⟩ : ∃ NR, NR = w.heap.size := ⟨_, rfl⟩
  have HNR := Lib.hid hNR
  rw [← hNR] at HR ⊢
  generalize grownCap (w.alloc (.cells #[.string ⟨#[]⟩, .string ⟨#[]⟩] 29)) key.size 0 5 = cap0 at *
  generalize key.data.toList = p0 at *
  clear hW0 hNR
  go_loopw [0, 6] (fun vn vp wr => ∃ (b' : Nat) (t' : RX) (p : List UInt8), vn = .pointer (some ⟨b', 0, none⟩) ∧ OwnM w.heap.size wr vp (nums p) ∧ EndW wr 2000 b' t' p ∧ Hid (goal = ((body t').head?).map (preE p)) ∧ Blk wr NR 29 #[.string ⟨#[]⟩, .string ⟨#[]⟩] ∧ Below w.heap.size w wr) (fun vn vp wr => 3000 - sliceLen vp)
  case atStart => exact ⟨b, t, p0, rfl, by rw [HNR.out]; exact HP.out, HE.out, HG, HR.out, HB.out⟩
  case round =>
    clear HP HE HG HR HB
    obtain ⟨b', t', p, rfl, hp, hE, hG, bR, hB⟩ := hrel
    have kv := value_any _ b' t' wr hE.rad
    unfold at0 at kv
    cases ht : t'.val with
    | some v =>
      rw [ht] at kv
      simp only [Option.getD_some, Option.isSome_some] at kv
      have hgo : goal = some (p, v) := by rw [hG.out, head_val ht]; simp [preE]
      have HGO := Lib.hid hgo
      have HPP := Lib.hid hp
      have HRR := Lib.hid bR
      have HBB := Lib.hid hB
      clear hE hG hp bR hB ht hgo
      go_wp2_with fail
      refine kv.mono ?_
      rintro e w1 ⟨rfl, hB1⟩
      have hcv := (HPP.out.below hB1).conv
      rw [bytS_nums] at hcv
      have bR := HRR.out.below hB1
      have y0 := bR.cell 0
      have y1 := bR.cell 1
      have f0 := bR.frozen 0
      have f1 := bR.frozen 1
      have HX := Lib.hid (HBB.out.trans (hB1.mono HBB.out.size))
      have F2 := Lib.hid (fun a => bR.set2 (.string a) (.string v))
      clear kv bR hB1
      go_wp2_with fail
      refine bodyPost_ret (ret_pair rfl _ _ NR _ rfl (F2.out _) rfl) rfl ?_
      rw [HGO.out]
      exact ⟨rfl, (HX.out.setCell (p := ⟨NR, 0, none⟩) (Nat.le_of_eq HNR.out.symm) _).setCell (p := ⟨NR, 1, none⟩) (Nat.le_of_eq HNR.out.symm) _⟩
    | none =>
      rw [ht] at kv
      simp only [Option.getD_none, Option.isSome_none] at kv
      have HPP := Lib.hid hp
      have HRR := Lib.hid bR
      have HBB := Lib.hid hB
      have HEE := Lib.hid hE
      have HT := Lib.hid ht
      clear hE hp bR hB ht
      go_wp2_with fail
      refine kv.mono ?_
      rintro e w1 ⟨rfl, hB1⟩
      have hE1 := HEE.out.below hB1
      obtain ⟨kv1, bs, hN, hKd⟩ : ∃ kv bs, Nod 0 w1 b' t' kv bs ∧ ∀ (i c : Nat) (k : RX), bs[i]? = some c → t'.kids[i]? = some k → RadT w1 c k := by
        cases hE1.rad with | mk a1 a2 a3 a4 => exact ⟨_, _, a1, a4⟩
      have hlen := hN.len
      have hbl : bs.length ≤ 900 := by rw [hlen]; have := kids_few hE1.can; omega
      have kk := kids_any 0 b' t' kv1 bs w1 hN hbl
      have HEE := Lib.hid hE1
      have HPP := Lib.hid (HPP.out.below hB1)
      have HRR := Lib.hid (HRR.out.below hB1)
      have HBB := Lib.hid (HBB.out.trans (hB1.mono HBB.out.size))
      have HK := Lib.hid hKd
      have HLN := Lib.hid hlen
      unfold at0 at kk
      clear kv hB1 hE1 hKd hN hlen
      go_wp2_with fail
      refine kk.mono ?_
      rintro e w2 ⟨v2, rfl, hO2, hB2⟩
      have hEE := HEE.out.below hB2
      have hPP := HPP.out.below hB2
      have bR := HRR.out.below hB2
      have hBB := HBB.out.trans (hB2.mono HBB.out.size)
      by_cases hk0 : bs.length = 0
      · have hkn : t'.kids = [] := List.length_eq_zero_iff.1 (by rw [← HLN.out]; exact hk0)
        have hgo : goal = none := by rw [hG.out, head_none HT.out hkn]; rfl
        obtain ⟨A2, n2, c2, hv2⟩ := hO2.form
        have hn2 : n2 = 0 := by
          rcases hO2.2 with ⟨e, h0⟩ | ⟨g, cap, cur, e, _⟩
          · rw [hv2] at e; simp only [Value.slice.injEq] at e; exact e.2.1
          · rw [hv2] at e; simp only [Value.slice.injEq] at e; omega
        subst hv2 hn2
        have y0 := bR.cell 0
        have y1 := bR.cell 1
        have f0 := bR.frozen 0
        have f1 := bR.frozen 1
        have F2 := Lib.hid (fun a b => bR.set2 (.string a) (.string b))
        have HX := Lib.hid hBB
        have HGO := Lib.hid hgo
        clear kk hO2 hEE hPP bR hBB hB2 hG hgo hkn hk0 hbl HK
        go_wp2_with fail
        refine bodyPost_ret (ret_pair rfl _ _ NR _ rfl (F2.out _ _) rfl) rfl ?_
        rw [HGO.out]
        exact ⟨rfl, (HX.out.setCell (p := ⟨NR, 0, none⟩) (Nat.le_of_eq HNR.out.symm) _).setCell (p := ⟨NR, 1, none⟩) (Nat.le_of_eq HNR.out.symm) _⟩
      · obtain ⟨k, ks, hks⟩ : ∃ k ks, t'.kids = k :: ks := by
          cases hh : t'.kids with
          | nil => rw [HLN.out, hh] at hk0; simp at hk0
          | cons k ks => exact ⟨k, ks, rfl⟩
        obtain ⟨g, c2, hv2, c0⟩ := hO2.at_ 0 (by omega)
        obtain ⟨b1, hb1⟩ : ∃ b1, b1 = bs.getD 0 0 := ⟨_, rfl⟩
        have hb10 : bs[0]? = some b1 := by rw [hb1, List.getD_eq_getElem?_getD, List.getElem?_eq_getElem (by omega)]; rfl
        rw [← hb1] at c0
        have hrk : RadT w2 b1 k := (HK.out 0 b1 k hb10 (by rw [hks]; rfl)).stay hB2
        obtain ⟨lab, hlab, kl⟩ := label_any _ b1 k w2 hrk
        have hE2 := hEE.kid (k := k) (by rw [hks]; simp) hrk
        have hgo : goal = ((body k).head?).map (preE (p ++ k.lab)) := by rw [hG.out, head_kid HT.out hks hEE.can, pre_pre]
        have hll := hE2.len
        have hpl := nums_len p
        have hls : lab.size = k.lab.length := by rw [← hlab]; exact (size_of lab).symm
        have hsl : sliceLen u6 = p.length := by obtain ⟨A, c, h⟩ := hPP.len; rw [h, nums_len] ; rfl
        subst hv2
        have kl2 := kl w2 (Below.refl _ _)
        have HE2 := Lib.hid hE2
        have HGO := Lib.hid hgo
        have HP2 := Lib.hid hPP
        have HR2 := Lib.hid bR
        have HB2 := Lib.hid hBB
        have hpos : 0 < k.lab.length := by
          have := (hEE.can.kd k (by rw [hks]; simp)).1
          cases hl : k.lab with
          | nil => exact absurd hl this
          | cons x s => simp
        have L1 : (0 : Int) < (bs.length : Int) := by omega
        have L2 : ¬ ((bs.length : Int) = 0) := by omega
        have HM := Lib.hid (⟨hsl, hpos, hll, hls⟩ : sliceLen u6 = p.length ∧ 0 < k.lab.length ∧ (p ++ k.lab).length ≤ 2000 ∧ lab.size = k.lab.length)
        have HSB := Lib.hid (strB_nums hlab)
        have hP2' : OwnM w.heap.size w2 u6 (nums p) := hPP
        have hsz2 := hBB.size
        have hll2 : p.length + k.lab.length ≤ 2000 := by simpa using hll
        unfold at0 at c0 kl2
        clear kk hO2 hEE bR hBB hB2 hG hgo hks hk0 hbl HK hrk hE2 hb1 hb10 kl hsl hpos hll hls hlab HLN HT HEE HPP HRR HBB
        go_wp2_with fail
        refine kl2.mono ?_
        rintro e w3 ⟨rfl, rfl⟩
        go_wp2_with (at_builtin; refine wpList_appM rfl _ _ rfl w.heap.size u6 (nums p) lab rfl rfl hP2' (by rw [hpl]; omega) (by rw [HM.out.2.2.2]; omega) hsz2 ?_; intro v' wa hown' hgrow)
        rw [HSB.out, ← nums_app] at hown'
        have hB3 := HB2.out.grown hgrow hsz2 (fun g hg => (HP2.out.lt g hg).1)
        refine ⟨⟨b1, k, p ++ k.lab, rfl, hown', HE2.out.grown HP2.out hgrow, HGO, ?_, hB3⟩, ?_⟩
        · exact HR2.out.keep (keep_grown hgrow) (fun hm => by
            obtain ⟨-, cur, fz, hc⟩ := HP2.out.lt NR (by simpa using hm)
            have := HR2.out
            unfold Blk at this
            rw [hc] at this
            simp at this)
        · obtain ⟨A, c, h⟩ := hown'.len
          have hm := HM.out
          rw [h]
          show 3000 - (nums (p ++ k.lab)).length < 3000 - sliceLen u6
          rw [nums_len, hm.1, List.length_append]
          omega
end Go.Proofs.Ytimhdegdmdilaaa
/- The last pair below a node. -/
namespace Go.Proofs.Ytimhdegdmdilaaa
open Go.RowKit Go.Lib
set_option linter.unusedVariables false
set_option linter.unnecessarySimpa false
set_option linter.unusedSimpArgs false
set_option linter.unnecessarySimpa false
set_option maxRecDepth 100000
/-- a node's children, cloned -/
structure KidsV (base : Nat) (w : World) (t : RX) (v : Value) (bs : List Nat) : Prop where
  own : OwnK base w v bs
  len : bs.length = t.kids.length
  rad : ∀ (i c : Nat) (k : RX), bs[i]? = some c → t.kids[i]? = some k → RadT w c k
theorem KidsV.below {base : Nat} {w w' : World} {t : RX} {v : Value} {bs : List Nat} (h : KidsV base w t v bs) (hb : Below w.heap.size w w') : KidsV base w' t v bs := ⟨h.own.stay hb, h.len, fun i c k h1 h2 => (h.rad i c k h1 h2).stay hb⟩
/-- Kids -/
theorem kids_v (b : Nat) (t : RX) (w : World) (h : RadT w b t) (hc : Can t) : Calls Try.prog 64 #[at0 b] w fun e w' => ∃ v bs, e = .returned v ∧ KidsV w.heap.size w' t v bs ∧ Below w.heap.size w w' := by
  obtain ⟨kv1, bs, hN, hKd⟩ : ∃ kv bs, Nod 0 w b t kv bs ∧ ∀ (i c : Nat) (k : RX), bs[i]? = some c → t.kids[i]? = some k → RadT w c k := by
    cases h with | mk a1 a2 a3 a4 => exact ⟨_, _, a1, a4⟩
  refine (kids_any 0 b t kv1 bs w hN (by rw [hN.len]; have := kids_few hc; omega)).mono ?_
  rintro e w' ⟨v, rfl, hO, hB⟩
  exact ⟨v, bs, rfl, ⟨hO, hN.len, fun i c k h1 h2 => (hKd i c k h1 h2).stay hB⟩, hB⟩
theorem kids_last {t : RX} {n : Nat} (h : t.kids.length = n + 1) : ∃ ks k, t.kids = ks ++ [k] ∧ ks.length = n ∧ t.kids[n]? = some k := by
  have hne : t.kids ≠ [] := fun e => by rw [e] at h; simp at h
  refine ⟨t.kids.dropLast, t.kids.getLast hne, (List.dropLast_concat_getLast hne).symm, by simp; omega, ?_⟩
  rw [List.getLast_eq_getElem]
  rw [List.getElem?_eq_getElem (by omega)]
  congr 1
  simp [h]
set_option maxHeartbeats 4000000 in
theorem nlast_any (b : Nat) (t : RX) (key : ByteArray) (w : World) (h : RadT w b t) (hc : Can t) (hs : Shrt 1000 t) (hk : key.size ≤ 1000) :
    Calls Try.prog 63 #[at0 b, .string key] w fun e w' => e = .returned (entV (((body t).getLast?).map (preE key.data.toList))) ∧ Below w.heap.size w w' := by
  obtain ⟨goal, hgoal⟩ : ∃ g, g = ((body t).getLast?).map (preE key.data.toList) := ⟨_, rfl⟩
  rw [← hgoal]
  have hcv := Go.Lib.run_convert_string_bytes (P := Try.prog) (w.alloc (.cells #[.string ⟨#[]⟩, .string ⟨#[]⟩] 29)) 9 79 5 key Try.underlying9 Try.underlying79 Try.underlying5
  obtain ⟨hE, bR, hB, hp⟩ := key_start b t key w h hc hs hk
  have HE := Lib.hid hE
  have HR := Lib.hid bR
  have HB := Lib.hid hB
  have HP := Lib.hid hp
  have HG := Lib.hid hgoal
  clear h hc hs hE bR hB hp hgoal
  rw [World.size_alloc] at hcv
  unfold at0
  go_enter Try.func63, Try.ntmps63
  go_wp2_with fail
  clear hcv
  obtain ⟨W0, hW0⟩ : ∃ W0, W0 = keyW w key := ⟨_, rfl⟩
  rw [show bytesWorld (w.alloc (.cells #[.string ⟨#[]⟩, .string ⟨#[]⟩] 29)) 5 key = W0 from hW0.symm]
  rw [← hW0] at HE HR HB HP
  obtain ⟨NR, hNR⟩ : ∃ NR, NR = w.heap.size := ⟨_, rfl⟩
  have HNR := Lib.hid hNR
  rw [← hNR] at HR ⊢
  generalize grownCap (w.alloc (.cells #[.string ⟨#[]⟩, .string ⟨#[]⟩] 29)) key.size 0 5 = cap0 at *
  generalize key.data.toList = p0 at *
  have k0 := kids_v b t W0 HE.out.rad HE.out.can
  unfold at0 at k0
  clear hW0 hNR
  refine k0.mono ?_
  rintro e W1 ⟨v1, bs1, rfl, hK1, hB1⟩
  have HE := Lib.hid (HE.out.below hB1)
  have HR := Lib.hid (HR.out.below hB1)
  have HP := Lib.hid (HP.out.below hB1)
  have HK := Lib.hid (⟨⟨hK1.own.1, hK1.own.2.imp id (fun ⟨g, cap, cur, h1, h2, h3⟩ => ⟨g, cap, cur, h1, Nat.le_trans HB.out.size h2, h3⟩)⟩, hK1.len, hK1.rad⟩ : KidsV w.heap.size W1 t v1 bs1)
  have HB := Lib.hid (HB.out.trans (hB1.mono HB.out.size))
  clear k0 hK1 hB1
  go_wp2_with fail
  go_loopw [0, 6, 7] (fun vn vp vk wr => ∃ (b' : Nat) (t' : RX) (p : List UInt8) (bs : List Nat), vn = .pointer (some ⟨b', 0, none⟩) ∧ OwnM w.heap.size wr vp (nums p) ∧ EndW wr 2000 b' t' p ∧ KidsV w.heap.size wr t' vk bs ∧ Hid (goal = ((body t').getLast?).map (preE p)) ∧ Blk wr NR 29 #[.string ⟨#[]⟩, .string ⟨#[]⟩] ∧ Below w.heap.size w wr) (fun vn vp vk wr => 3000 - sliceLen vp)
  case atStart => exact ⟨b, t, p0, bs1, rfl, by rw [HNR.out]; exact HP.out, HE.out, HK.out, HG, HR.out, HB.out⟩
  case round =>
    clear HP HE HG HR HB HK
    obtain ⟨b', t', p, bs, rfl, hp, hE, hK, hG, bR, hB⟩ := hrel
    obtain ⟨A2, c2, hv2⟩ := own_formN hK.own
    subst hv2
    by_cases hk0 : bs.length = 0
    · have hkn : t'.kids = [] := List.length_eq_zero_iff.1 (by rw [← hK.len]; exact hk0)
      rw [hk0]
      have kv := value_any _ b' t' wr hE.rad
      unfold at0 at kv
      have hgo : goal = ((vals t'.val).getLast?).map (preE p) := by rw [hG.out, last_here hkn]
      have L0 : ¬ ((0 : Int) < 0) := by omega
      cases ht : t'.val with
      | some v =>
        rw [ht] at kv hgo
        simp only [Option.getD_some, Option.isSome_some] at kv
        have hgo : goal = some (p, v) := by rw [hgo]; simp [vals, preE]
        have HGO := Lib.hid hgo
        have HPP := Lib.hid hp
        have HRR := Lib.hid bR
        have HBB := Lib.hid hB
        clear hE hG hp bR hB ht hgo hK hk0 hkn
        go_wp2_with fail
        refine kv.mono ?_
        rintro e w1 ⟨rfl, hB1⟩
        have hcv := (HPP.out.below hB1).conv
        rw [bytS_nums] at hcv
        have bR := HRR.out.below hB1
        have y0 := bR.cell 0
        have y1 := bR.cell 1
        have f0 := bR.frozen 0
        have f1 := bR.frozen 1
        have HX := Lib.hid (HBB.out.trans (hB1.mono HBB.out.size))
        have F2 := Lib.hid (fun a => bR.set2 (.string a) (.string v))
        clear kv bR hB1
        go_wp2_with fail
        refine bodyPost_ret (ret_pair rfl _ _ NR _ rfl (F2.out _) rfl) rfl ?_
        rw [HGO.out]
        exact ⟨rfl, (HX.out.setCell (p := ⟨NR, 0, none⟩) (Nat.le_of_eq HNR.out.symm) _).setCell (p := ⟨NR, 1, none⟩) (Nat.le_of_eq HNR.out.symm) _⟩
      | none =>
        rw [ht] at kv hgo
        simp only [Option.getD_none, Option.isSome_none] at kv
        have hgo : goal = none := by rw [hgo]; simp [vals]
        have HGO := Lib.hid hgo
        have HRR := Lib.hid bR
        have HBB := Lib.hid hB
        clear hE hG hp bR hB ht hgo hK hk0 hkn
        go_wp2_with fail
        refine kv.mono ?_
        rintro e w1 ⟨rfl, hB1⟩
        have bR := HRR.out.below hB1
        have y0 := bR.cell 0
        have y1 := bR.cell 1
        have f0 := bR.frozen 0
        have f1 := bR.frozen 1
        have HX := Lib.hid (HBB.out.trans (hB1.mono HBB.out.size))
        have F2 := Lib.hid (fun a b => bR.set2 (.string a) (.string b))
        clear kv bR hB1
        go_wp2_with fail
        refine bodyPost_ret (ret_pair rfl _ _ NR _ rfl (F2.out _ _) rfl) rfl ?_
        rw [HGO.out]
        exact ⟨rfl, (HX.out.setCell (p := ⟨NR, 0, none⟩) (Nat.le_of_eq HNR.out.symm) _).setCell (p := ⟨NR, 1, none⟩) (Nat.le_of_eq HNR.out.symm) _⟩
    · obtain ⟨n, hn⟩ : ∃ n, bs.length = n + 1 := ⟨bs.length - 1, by omega⟩
      have hfew := kids_few hE.can
      have hkl := hK.len
      obtain ⟨ks, k, hks, hkl2, hkn⟩ := kids_last (t := t') (n := n) (by rw [← hK.len]; exact hn)
      obtain ⟨g, c3, hv3, c0⟩ := hK.own.at_ n (by omega)
      simp only [Value.slice.injEq, true_and] at hv3
      obtain ⟨rfl, rfl⟩ := hv3
      obtain ⟨b1, hb1⟩ : ∃ b1, b1 = bs.getD n 0 := ⟨_, rfl⟩
      have hb10 : bs[n]? = some b1 := by rw [hb1, List.getD_eq_getElem?_getD, List.getElem?_eq_getElem (by omega)]; rfl
      rw [← hb1] at c0
      have hrk : RadT wr b1 k := hK.rad n b1 k hb10 hkn
      obtain ⟨lab, hlab, kl⟩ := label_any _ b1 k wr hrk
      have hmem : k ∈ t'.kids := by rw [hks]; simp
      have hE2 := hE.kid (k := k) hmem hrk
      have hgo : goal = ((body k).getLast?).map (preE (p ++ k.lab)) := by rw [hG.out, last_kid hks hE.can, pre_pre]
      have hll := hE2.len
      have hpl := nums_len p
      have hls : lab.size = k.lab.length := by rw [← hlab]; exact (size_of lab).symm
      have hsl : sliceLen u6 = p.length := by obtain ⟨A, c, h⟩ := hp.len; rw [h, nums_len]; rfl
      have kl2 := kl wr (Below.refl _ _)
      have HE2 := Lib.hid hE2
      have HGO := Lib.hid hgo
      have HP2 := Lib.hid hp
      have HR2 := Lib.hid bR
      have HB2 := Lib.hid hB
      have hpos : 0 < k.lab.length := by
        have := (hE.can.kd k hmem).1
        cases hl : k.lab with
        | nil => exact absurd hl this
        | cons x s => simp
      rw [hn]
      have L1 : (0 : Int) < ((n + 1 : Nat) : Int) := by omega
      have L2 : IntKind.i64.wrap (((n + 1 : Nat) : Int) - 1) = (n : Int) := by rw [IntWalk.i64_in _ (by omega)]; omega
      have L3 : (n : Int) < ((n + 1 : Nat) : Int) := by omega
      have HM := Lib.hid (⟨hsl, hpos, hll, hls⟩ : sliceLen u6 = p.length ∧ 0 < k.lab.length ∧ (p ++ k.lab).length ≤ 2000 ∧ lab.size = k.lab.length)
      have HSB := Lib.hid (strB_nums hlab)
      have hp2' : OwnM w.heap.size wr u6 (nums p) := hp
      have hsz2 := hB.size
      have hll2 : p.length + k.lab.length ≤ 2000 := by simpa using hll
      obtain ⟨N1, hN1⟩ : ∃ N1, N1 = n + 1 := ⟨_, rfl⟩
      rw [← hN1] at L1 L2 L3 ⊢
      unfold at0 at c0 kl2
      clear hE hp bR hB hG hgo hks hk0 hrk hE2 hb1 hb10 kl hsl hpos hll hls hlab hK hn hN1 hkl hkl2 hkn hmem hfew
      go_wp2_with fail
      refine kl2.mono ?_
      rintro e w3 ⟨rfl, rfl⟩
      go_wp2_with (at_builtin; refine wpList_appM rfl _ _ rfl w.heap.size u6 (nums p) lab rfl rfl hp2' (by rw [hpl]; omega) (by rw [HM.out.2.2.2]; omega) hsz2 ?_; intro v' wa hown' hgrow)
      rw [HSB.out, ← nums_app] at hown'
      have hB3 := HB2.out.grown hgrow hsz2 (fun g hg => (HP2.out.lt g hg).1)
      have hE3 := HE2.out.grown HP2.out hgrow
      have bR3 := HR2.out.keep (keep_grown hgrow) (fun hm => by
          obtain ⟨-, cur, fz, hc⟩ := HP2.out.lt NR (by simpa using hm)
          have := HR2.out
          unfold Blk at this
          rw [hc] at this
          simp at this)
      have k4 := kids_v b1 k wa hE3.rad hE3.can
      have HB3 := Lib.hid hB3
      have HE3 := Lib.hid hE3
      have HR3 := Lib.hid bR3
      have HO3 := Lib.hid hown'
      unfold at0 at k4
      clear hown' hgrow hB3 hE3 bR3 kl2 c0 hp2' hsz2
      go_wp2_with fail
      refine k4.mono ?_
      rintro e w4 ⟨v4, bs4, rfl, hK4, hB4⟩
      go_wp2_with fail
      refine ⟨⟨b1, k, p ++ k.lab, bs4, rfl, HO3.out.below hB4, HE3.out.below hB4, ⟨⟨hK4.own.1, hK4.own.2.imp id (fun ⟨g, cap, cur, h1, h2, h3⟩ => ⟨g, cap, cur, h1, Nat.le_trans HB3.out.size h2, h3⟩)⟩, hK4.len, hK4.rad⟩, HGO, HR3.out.below hB4, HB3.out.trans (hB4.mono HB3.out.size)⟩, ?_⟩
      obtain ⟨A, c, h⟩ := HO3.out.len
      have hm := HM.out
      rw [h]
      show 3000 - (nums (p ++ k.lab)).length < 3000 - sliceLen u6
      rw [nums_len, hm.1, List.length_append]
      omega
end Go.Proofs.Ytimhdegdmdilaaa
/- near.order, and the search for where a way goes on. -/
namespace Go.Proofs.Ytimhdegdmdilaaa
open Go.RowKit Go.Lib
set_option linter.unusedVariables false
set_option linter.unnecessarySimpa false
set_option linter.unusedSimpArgs false
set_option linter.unnecessarySimpa false
set_option maxRecDepth 100000
def fn91 : Value := .func (.func 91) #[] #[]
theorem order_any (b : Nat) (t : RX) (rest : ByteArray) (w : World) (h : RadT w b t) (hl : t.lab.length ≤ 1000) (hr : rest.size ≤ 100000) :
    Calls Try.prog 91 #[at0 b, .string rest] w fun e w' => e = .returned (.int .i64 (ordL t.lab rest.data.toList)) ∧ w = w' := by
  obtain ⟨lab, hlab, kl⟩ := label_any _ b t w h
  have kl1 := kl w (Below.refl _ _)
  have hls : lab.size ≤ 1000 := by rw [← size_of lab, hlab]; exact hl
  have kb := Tw.begins_any rest lab w (by unfold maxLen; omega) (by unfold maxLen; omega)
  have kc := compare lab rest w
  have e1 : Tw.bgB rest lab = true → ordL t.lab rest.data.toList = 0 := fun hb => by
    rw [ordL_zero, ← hlab]; exact (Tw.bgB_iff _ _).1 hb
  have e2 : Tw.bgB rest lab = false → ordL t.lab rest.data.toList = cmpS lab rest := fun hb => by
    unfold ordL cmpS
    rw [if_neg, hlab]
    intro hp
    rw [← hlab] at hp
    have := (Tw.bgB_iff _ _).2 hp
    rw [hb] at this; cases this
  have E1 := Lib.hid e1
  have E2 := Lib.hid e2
  clear h hl hlab kl hls hr e1 e2
  unfold at0 at kl1 ⊢
  go_enter Try.func91, Try.ntmps91
  go_wp2_with fail
  refine kl1.mono ?_
  rintro e w1 ⟨rfl, rfl⟩
  go_wp2_with fail
  refine kb.mono ?_
  rintro e w2 ⟨rfl, rfl⟩
  cases hb : Tw.bgB rest lab with
  | true =>
    have E := Lib.hid (E1.out hb)
    clear E1 E2 hb kb
    go_wp2_with fail
    go_ret
    rw [E.out]
    exact ⟨rfl, rfl⟩
  | false =>
    have E := Lib.hid (E2.out hb)
    clear E1 E2 hb kb
    go_wp2_with fail
    refine kl1.mono ?_
    rintro e w3 ⟨rfl, rfl⟩
    go_wp2_with fail
    refine kc.mono ?_
    rintro e w4 ⟨rfl, rfl⟩
    go_wp2_with fail
    go_ret
    rw [E.out]
    exact ⟨rfl, rfl⟩
set_option maxHeartbeats 8000000 in
theorem bsearchO (base : Nat) (kv : Value) (bs : List Nat) (ks : List RX) (rest : ByteArray) (w : World) (hO : OwnK base w kv bs) (hl : bs.length = ks.length) (hk : ∀ (i c : Nat) (k : RX), bs[i]? = some c → ks[i]? = some k → RadT w c k)
    (hn : ks.length ≤ 1000) (hr : ks.Pairwise (fun a b => fst? a < fst? b)) (hne : ∀ k ∈ ks, k.lab ≠ []) (hs : ∀ k ∈ ks, k.lab.length ≤ 1000) (hx : rest.size ≤ 100000) :
    Calls Try.prog 90 #[kv, .string rest, fn91] w fun e w' => e = .returned (.tuple #[.int .i64 (posO ks rest.data.toList), .bool (isO ks rest.data.toList)]) ∧ Below w.heap.size w w' := by
  obtain ⟨N, hN⟩ : ∃ N, N = ks.length := ⟨_, rfl⟩
  obtain ⟨R, hRR⟩ : ∃ R, R = rest.data.toList := ⟨_, rfl⟩
  rw [← hRR]
  obtain ⟨Q, hQ⟩ : ∃ Q, Q = posO ks R := ⟨_, rfl⟩
  have hQN : Q ≤ N := by rw [hQ, hN]; exact posO_le _ _
  obtain ⟨A, c, hkv⟩ : ∃ A c, kv = .slice A N c := by
    rcases hO.2 with ⟨e, h0⟩ | ⟨g, cap, cur, e, _⟩
    · exact ⟨none, 0, by rw [e, hN, ← hl, h0]⟩
    · exact ⟨_, _, by rw [e, hN, hl]⟩
  subst hkv
  rw [← hQ]
  have hn' : N ≤ 1000 := by omega
  have HN := Lib.hid hN
  have HQ := Lib.hid hQ
  have HO := Lib.hid hO
  have HK := Lib.hid hk
  have HS := Lib.hid hr
  have HL := Lib.hid hs
  have HB := Lib.hid hl
  have HNE := Lib.hid hne
  have hcall : ∀ j, j < N → ∀ wr, Below w.heap.size w wr → (∃ g c, A = some ⟨g, 0, none⟩ ∧ wr.cell? ⟨g, j, none⟩ = some (at0 (bs.getD j 0))) ∧ Calls Try.prog 91 #[at0 (bs.getD j 0), .string rest] wr fun e w' => e = .returned (.int .i64 (ordL (rat ks j).lab R)) ∧ wr = w' := fun j hj wr hB => by
    have hjb : j < bs.length := by rw [hl, ← hN]; exact hj
    obtain ⟨g, c, e, h⟩ := (hO.stay hB).at_ j hjb
    refine ⟨⟨g, c, by simpa using congrArg (fun v : Value => match v with | .slice a _ _ => a | _ => none) e, h⟩, ?_⟩
    have hb2 : bs[j]? = some (bs.getD j 0) := by rw [List.getD_eq_getElem?_getD, List.getElem?_eq_getElem hjb]; rfl
    have hk2 := rat_get (ks := ks) (j := j) (by omega)
    rw [hRR]
    exact order_any _ _ _ _ ((hk j _ _ hb2 hk2).stay hB) (hs _ (List.mem_of_getElem? hk2)) hx
  clear hN hQ hO hk hr hs hl hn hRR hne
  unfold fn91
  go_enter Try.func90, Try.ntmps90
  go_wp2_with fail
  go_loopw [9, 10] (fun vi vj wr => ∃ (i j : Nat), vi = .int .i64 i ∧ vj = .int .i64 j ∧ i ≤ Q ∧ Q ≤ j ∧ j ≤ N ∧ Below w.heap.size w wr) (fun vi vj wr => (RowKit.intOf vj).toNat - (RowKit.intOf vi).toNat)
  case atStart => exact ⟨0, N, rfl, rfl, Nat.zero_le _, hQN, Nat.le_refl _, Below.refl _ _⟩
  case round =>
    obtain ⟨i, j, rfl, rfl, hi, hij, hj, hB⟩ := hrel
    by_cases hlt : i < j
    · obtain ⟨h, hh⟩ : ∃ h, h = (i + j) / 2 := ⟨_, rfl⟩
      have B1 : i ≤ h ∧ h < j := by omega
      have E1 : IntKind.i64.wrap ((i : Int) + (j : Int)) = (i : Int) + (j : Int) := IntWalk.i64_in _ (by omega)
      have E2 : ((i : Int) + (j : Int)) / 2 = (h : Int) := by omega
      have E3 : IntKind.i64.wrap ((h : Int) + 1) = ((h + 1 : Nat) : Int) := by rw [IntWalk.i64_in _ (by omega)]; omega
      clear hh
      obtain ⟨⟨g, c', rfl, c0⟩, hc⟩ := hcall h (by omega) _ hB
      unfold at0 at c0
      have B2 : (h : Int) < (N : Int) := by omega
      have hge := posO_ge (r := R) HS.out HNE.out h
      have hlt' := posO_lt ks R h
      rw [← HQ.out] at hge hlt'
      rw [← HN.out] at hge
      unfold at0 at hc
      generalize ordL (rat ks h).lab R = F at *
      generalize bs.getD h 0 = kb at *
      clear hcall
      by_cases hcmp : F < 0
      · have S : h + 1 ≤ Q := by
          rcases Nat.lt_or_ge h Q with q | q
          · exact q
          · exact absurd hcmp (hge q (by omega))
        clear hge hlt'
        go_wp2_with fail
        refine hc.mono ?_
        rintro e w1 ⟨rfl, rfl⟩
        go_wp2_with fail
        refine ⟨⟨h + 1, j, by go_num, rfl, S, hij, hj, hB⟩, ?_⟩
        simp [RowKit.intOf]; omega
      · have S : Q ≤ h := by
          rcases Nat.lt_or_ge h Q with q | q
          · exact absurd (hlt' q) hcmp
          · exact q
        clear hge hlt'
        go_wp2_with fail
        refine hc.mono ?_
        rintro e w1 ⟨rfl, rfl⟩
        go_wp2_with fail
        refine ⟨⟨i, h, rfl, rfl, hi, S, by omega, hB⟩, ?_⟩
        simp [RowKit.intOf]; omega
    · obtain rfl : i = Q := by omega
      by_cases hend : i < N
      · obtain ⟨⟨g, c', rfl, c0⟩, hc⟩ := hcall i hend _ hB
        unfold at0 at c0
        have B2 : (i : Int) < (N : Int) := by omega
        have HI := Lib.hid (show isO ks R = (ordL (rat ks i).lab R == 0) by
          unfold isO
          rw [← HQ.out, ← HN.out]
          by_cases e : ordL (rat ks i).lab R = 0
          · simp [e, hend]
          · simp [e])
        unfold at0 at hc
        clear hcall
        generalize ordL (rat ks i).lab R = cv at *
        generalize bs.getD i 0 = kb at *
        go_wp2_with fail
        refine hc.mono ?_
        rintro e w1 ⟨rfl, rfl⟩
        go_wp2_with fail
        go_ret2
        rw [HI.out]
        exact ⟨rfl, hB⟩
      · have HI := Lib.hid (show isO ks R = false by unfold isO; rw [← HQ.out, ← HN.out]; simp [hend])
        have B2 : ¬ ((i : Int) < (N : Int)) := by omega
        clear hcall
        go_wp2_with fail
        go_ret2
        rw [HI.out]
        exact ⟨rfl, hB⟩
end Go.Proofs.Ytimhdegdmdilaaa
