/- What follows the search of a merge. -/
import Derived.Test.YtfipifjlmepooaaPx2
namespace Go.Proofs.Ytfipifjlmepooaa
open Go.RowKit Go.Lib
set_option linter.unusedVariables false
set_option linter.unusedSimpArgs false
set_option maxRecDepth 1000000 in
set_option maxHeartbeats 32000000 in
theorem symTail (dd base g cap : Nat) (xs : List Pr) (a m b mid n s e N : Nat) (w wr : World)
    (IH : Hid (∀ (base g cap : Nat) (xs : List Pr) (a m b : Nat) (w : World), b - a ≤ dd → Own base w (.slice (some ⟨g, 0, none⟩) xs.length cap) xs → a < m → m < b → b ≤ xs.length → xs.length ≤ 1000 → Srt xs a m → Srt xs m b →
      Calls Try.prog 55 #[.slice (some ⟨g, 0, none⟩) xs.length cap, .int .i64 a, .int .i64 m, .int .i64 b, fn43] w (MergePost base g cap xs a b w)))
    (hdd : b - a ≤ dd + 1) (ham : a < m) (hmb : m < b) (HN : Hid (N = xs.length)) (hb : b ≤ N) (hn : N ≤ 1000) (HS1 : Hid (Srt xs a m)) (HS2 : Hid (Srt xs m b)) (hmm : a < mid ∧ mid < b) (E5 : IntKind.i64.wrap ((n : Int) - (s : Int)) = (e : Int))
    (HFE : Hid (a ≤ s ∧ s ≤ m ∧ m ≤ e ∧ e ≤ b ∧ s ≤ mid ∧ mid ≤ e ∧ (a < s → e < b → Le (kat xs (s - 1)) (kat xs e)) ∧ (s < m → m < e → Lt (kat xs (e - 1)) (kat xs s)))) (HES : Hid (e + s = mid + m))
    (hO : Own base wr (.slice (some ⟨g, 0, none⟩) N cap) xs) (hK : Keep [g] w wr) (x5 x6 x7 x8 x9 x10 x11 x12 x13 x14 x15 x16 x17 x21 x22 x23 x24 x25 x26 x27 x28 x29 x30 x31 x32 x33 x34 x35 x36 x37 x38 x39 x40 x41 x42 x43 x44 x45 x46 x47 x48 x49 x50 x51 x52 x53 x54 x55 x56 x57 x58 x59 x60 x61 x62 x63 x64 x65 x66 x67 x68 x69 x70 x71 x72 x73 x74 x75 x76 x77 x78 x79 x80 x81 x82 x83 x84 x85 x86 x87 x88 x89 x90 x91 x92 x93 x94 x95 x96 x97 x98 x99 x100 x101 x102 x103 x104 x105 x106 x107 x108 x109 x110 x111 x112 x113 x114 x115 x116 x117 x118 x119 x120 x121 x122 x123 x124 x125 x126 x127 x128 x129 x130 x131 x132 x133 x134 x135 x136 x137 x138 x139 x140 x141 x142 x143 x144 x145 x146 x147 x148 x149 x150 x151 x152 x153 x154 x155 x156 x157 x158 x159 x160 x161 x162 x163 x164 x165 x166 x167 x168 x169 x170 x171 x172 x173 x174 x175 x176 x177 x178 x179 x180 x181 x182 x183 x184 x185 x186 x187 x188 x189 x190 x191 x192 x193 x194 x195 x196 x197 x198 x199 x200 x201 x202 x203 x204 x205 x206 x207 x208 x209 x210 x211 x212 x213 x214 x215 x216 x217 x218 x219 : Value) :
    Code.wp Try.prog tail38 (bodyPost Try.prog Try.f55 (MergePost base g cap xs a b w)) ⟨#[.slice (some ⟨g, 0, none⟩) N cap, .int .i64 a, .int .i64 m, .int .i64 b, fn43, x5, x6, x7, x8, x9, x10, x11, x12, x13, x14, x15, x16, x17, .int .i64 mid, .int .i64 n, .int .i64 s, x21, x22, x23, x24, x25, x26, x27, x28, x29, x30, x31, x32, x33, x34, x35, x36, x37, x38, x39, x40, x41, x42, x43, x44, x45, x46, x47, x48, x49, x50, x51, x52, x53, x54, x55, x56, x57, x58, x59, x60, x61, x62, x63, x64, x65, x66, x67, x68, x69, x70, x71, x72, x73, x74, x75, x76, x77, x78, x79, x80, x81, x82, x83, x84, x85, x86, x87, x88, x89, x90, x91, x92, x93, x94, x95, x96, x97, x98, x99, x100, x101, x102, x103, x104, x105, x106, x107, x108, x109, x110, x111, x112, x113, x114, x115, x116, x117, x118, x119, x120, x121, x122, x123, x124, x125, x126, x127, x128, x129, x130, x131, x132, x133, x134, x135, x136, x137, x138, x139, x140, x141, x142, x143, x144, x145, x146, x147, x148, x149, x150, x151, x152, x153, x154, x155, x156, x157, x158, x159, x160, x161, x162, x163, x164, x165, x166, x167, x168, x169, x170, x171, x172, x173, x174, x175, x176, x177, x178, x179, x180, x181, x182, x183, x184, x185, x186, x187, x188, x189, x190, x191, x192, x193, x194, x195, x196, x197, x198, x199, x200, x201, x202, x203, x204, x205, x206, x207, x208, x209, x210, x211, x212, x213, x214, x215, x216, x217, x218, x219], []⟩ wr := by
  have bds : a ≤ s ∧ s ≤ m ∧ m ≤ e ∧ e ≤ b ∧ s ≤ mid ∧ mid ≤ e := ⟨HFE.out.1, HFE.out.2.1, HFE.out.2.2.1, HFE.out.2.2.2.1, HFE.out.2.2.2.2.1, HFE.out.2.2.2.2.2.1⟩
  unfold fn43
  simp only []
  conv => arg 2; whnf
  go_upto_region 39 with (fail)
  clear E5
  go_cut [185] (fun v wx => v = .bool (decide (s < m ∧ m < e)) ∧ wr = wx)
  case first =>
    by_cases k1 : s < m
    · by_cases k2 : m < e
      · go_wp2_with fail
        go_meet
        exact ⟨by simp [k1, k2], rfl⟩
      · go_wp2_with fail
        go_meet
        exact ⟨by simp [k1, k2], rfl⟩
    · go_wp2_with fail
      go_meet
      exact ⟨by simp [k1], rfl⟩
  case rest =>
    obtain ⟨rfl, rfl⟩ := hcut
    go_upto_if 185 with (fail)
    go_cut [24] (fun ve wx => ve = .int .i64 e ∧ ∃ ys, Hid (Rt xs ys s m mid e) ∧ Own base wx (.slice (some ⟨g, 0, none⟩) N cap) ys ∧ Keep [g] w wx)
    case first =>
      by_cases hrot : s < m ∧ m < e
      · have hdec : decide (s < m ∧ m < e) = true := decide_eq_true hrot
        have hsp := split4 (xs := xs) (s := s) (m := m) (e := e) (by omega) (by omega) (by have := HN.out; omega)
        have hO' : Own base wr (.slice (some ⟨g, 0, none⟩) N cap) (xs.take s ++ (xs.drop s).take (m - s) ++ (xs.drop m).take (e - m) ++ xs.drop e) := by rw [← hsp.1]; exact hO
        have hRt := Lib.hid (rt_rot (xs := xs) (s := s) (m := m) (mid := mid) (e := e) (by omega) (by omega) (by have := HN.out; omega) (by have := HES.out; omega) (fun p q p1 p2 p3 p4 => by
          have hB := HFE.out.2.2.2.2.2.2.2 (by omega) (by omega)
          have l1 : Le (kat xs q) (kat xs (e - 1)) := by
            by_cases ee : q = e - 1
            · rw [ee]; exact Le.refl _
            · exact HS2.out q (e - 1) p3 (by omega) (by omega)
          have l2 : Le (kat xs s) (kat xs p) := by
            by_cases ee : s = p
            · rw [ee]; exact Le.refl _
            · exact HS1.out s p (by omega) (by omega) p2
          exact (l1.trans_lt hB).trans_le l2))
        have hrt := rotate base g cap (xs.take s) ((xs.drop s).take (m - s)) ((xs.drop m).take (e - m)) (xs.drop e) N wr (by rw [hsp.2.1, hsp.2.2.1, hsp.2.2.2, List.length_drop]; have := HN.out; omega) hn (by rw [hsp.2.2.1]; omega) (by rw [hsp.2.2.2]; omega) hO' fn43 s m e hsp.2.1.symm (by rw [hsp.2.1, hsp.2.2.1]; omega) (by rw [hsp.2.1, hsp.2.2.1, hsp.2.2.2]; omega)
        have HR := Lib.hid hrt
        clear hrt hsp hO' hO
        go_wp2_with fail
        refine HR.out.mono ?_
        rintro e' w1 ⟨rfl, hO1, hK1⟩
        go_wp2_with fail
        go_meet
        exact ⟨rfl, _, hRt, hO1, hK.trans hK1⟩
      · have hdec : decide (s < m ∧ m < e) = false := decide_eq_false hrot
        have hRt := Lib.hid (rt_same xs s m mid e (by omega) (by omega) (by have := HES.out; omega) (by omega))
        go_wp2_with fail
        go_meet
        exact ⟨rfl, xs, hRt, hO, hK⟩
    case rest =>
      obtain ⟨rfl, ys, hRt, hO1, hK1⟩ := hcut
      clear hO hK
      have hparts := rt_parts hRt.out bds.1 bds.2.1 bds.2.2.1 bds.2.2.2.1 (by rw [← HN.out]; exact hb) (by have := HES.out; omega) HS1.out HS2.out HFE.out.2.2.2.2.2.2.1 HFE.out.2.2.2.2.2.2.2
      have hyl : ys.length = N := by rw [HN.out]; exact hRt.out.1
      have HP := Lib.hid hparts
      have HYL := Lib.hid hyl
      clear hparts hyl hRt HFE
      have HT := Lib.hid (symTail41 dd base g cap xs ys a m b mid s e N w wc IH hdd HN hb hn hmm bds HYL HP hO1 hK1)
      go_step
      exact HT.out _ _ _ _ _ _ _ _ _ _ _ _ _ _ _ _ _ _ _ _ _ _ _ _ _ _ _ _ _ _ _ _ _ _ _ _ _ _ _ _ _ _ _ _ _ _ _ _ _ _ _ _ _ _ _ _ _ _ _ _ _ _ _ _ _ _ _ _ _ _ _ _ _ _ _ _ _ _ _ _ _ _ _ _ _ _ _ _ _ _ _ _ _ _ _ _ _ _ _ _ _ _ _ _ _ _ _ _ _ _ _ _ _ _ _ _ _ _ _ _ _ _ _ _ _ _ _ _ _ _ _ _ _ _ _ _ _ _ _ _ _ _ _ _ _ _ _ _ _ _ _ _ _ _ _ _ _ _ _ _ _ _ _ _ _ _ _ _ _ _ _ _ _ _ _ _ _ _ _ _ _ _ _ _ _ _ _ _ _ _ _ _ _ _ _ _ _ _ _ _ _ _ _ _ _ _ _ _ _ _ _ _
end Go.Proofs.Ytfipifjlmepooaa
