/- What follows the left half of a merge. -/
import Derived.Test.YtfipifjlmepooaaPx1
namespace Go.Proofs.Ytfipifjlmepooaa
open Go.RowKit Go.Lib
set_option linter.unusedVariables false
set_option linter.unusedSimpArgs false
noncomputable def tail41 : Code := (Try.f55.body.bind (fromRegion 41)).getD .skip
set_option maxRecDepth 1000000 in
set_option maxHeartbeats 32000000 in
theorem symTail41 (dd base g cap : Nat) (xs ys : List Pr) (a m b mid s e N : Nat) (w wc : World)
    (IH : Hid (∀ (base g cap : Nat) (xs : List Pr) (a m b : Nat) (w : World), b - a ≤ dd → Own base w (.slice (some ⟨g, 0, none⟩) xs.length cap) xs → a < m → m < b → b ≤ xs.length → xs.length ≤ 1000 → Srt xs a m → Srt xs m b →
      Calls Try.prog 55 #[.slice (some ⟨g, 0, none⟩) xs.length cap, .int .i64 a, .int .i64 m, .int .i64 b, fn43] w (MergePost base g cap xs a b w)))
    (hdd : b - a ≤ dd + 1) (HN : Hid (N = xs.length)) (hb : b ≤ N) (hn : N ≤ 1000) (hmm : a < mid ∧ mid < b) (bds : a ≤ s ∧ s ≤ m ∧ m ≤ e ∧ e ≤ b ∧ s ≤ mid ∧ mid ≤ e) (HYL : Hid (ys.length = N))
    (HP : Hid (Re xs ys a b ∧ Srt ys a s ∧ Srt ys s mid ∧ Srt ys mid e ∧ Srt ys e b ∧ ∀ p q, a ≤ p → p < mid → mid ≤ q → q < b → Le (kat ys p) (kat ys q)))
    (hO1 : Own base wc (.slice (some ⟨g, 0, none⟩) N cap) ys) (hK1 : Keep [g] w wc) (x5 x6 x7 x8 x9 x10 x11 x12 x13 x14 x15 x16 x17 x19 x21 x22 x23 x25 x26 x27 x28 x29 x30 x31 x32 x33 x34 x35 x36 x37 x38 x39 x40 x41 x42 x43 x44 x45 x46 x47 x48 x49 x50 x51 x52 x53 x54 x55 x56 x57 x58 x59 x60 x61 x62 x63 x64 x65 x66 x67 x68 x69 x70 x71 x72 x73 x74 x75 x76 x77 x78 x79 x80 x81 x82 x83 x84 x85 x86 x87 x88 x89 x90 x91 x92 x93 x94 x95 x96 x97 x98 x99 x100 x101 x102 x103 x104 x105 x106 x107 x108 x109 x110 x111 x112 x113 x114 x115 x116 x117 x118 x119 x120 x121 x122 x123 x124 x125 x126 x127 x128 x129 x130 x131 x132 x133 x134 x135 x136 x137 x138 x139 x140 x141 x142 x143 x144 x145 x146 x147 x148 x149 x150 x151 x152 x153 x154 x155 x156 x157 x158 x159 x160 x161 x162 x163 x164 x165 x166 x167 x168 x169 x170 x171 x172 x173 x174 x175 x176 x177 x178 x179 x180 x181 x182 x183 x184 x185 x186 x187 x188 x189 x190 x191 x192 x193 x194 x195 x196 x197 x198 x199 x200 x201 x202 x203 x204 x205 x206 x207 x208 x209 x210 x211 x212 x213 x214 x215 x216 x217 x218 x219 : Value) :
    Code.wp Try.prog tail41 (bodyPost Try.prog Try.f55 (MergePost base g cap xs a b w)) ⟨#[.slice (some ⟨g, 0, none⟩) N cap, .int .i64 a, .int .i64 m, .int .i64 b, fn43, x5, x6, x7, x8, x9, x10, x11, x12, x13, x14, x15, x16, x17, .int .i64 mid, x19, .int .i64 s, x21, x22, x23, .int .i64 e, x25, x26, x27, x28, x29, x30, x31, x32, x33, x34, x35, x36, x37, x38, x39, x40, x41, x42, x43, x44, x45, x46, x47, x48, x49, x50, x51, x52, x53, x54, x55, x56, x57, x58, x59, x60, x61, x62, x63, x64, x65, x66, x67, x68, x69, x70, x71, x72, x73, x74, x75, x76, x77, x78, x79, x80, x81, x82, x83, x84, x85, x86, x87, x88, x89, x90, x91, x92, x93, x94, x95, x96, x97, x98, x99, x100, x101, x102, x103, x104, x105, x106, x107, x108, x109, x110, x111, x112, x113, x114, x115, x116, x117, x118, x119, x120, x121, x122, x123, x124, x125, x126, x127, x128, x129, x130, x131, x132, x133, x134, x135, x136, x137, x138, x139, x140, x141, x142, x143, x144, x145, x146, x147, x148, x149, x150, x151, x152, x153, x154, x155, x156, x157, x158, x159, x160, x161, x162, x163, x164, x165, x166, x167, x168, x169, x170, x171, x172, x173, x174, x175, x176, x177, x178, x179, x180, x181, x182, x183, x184, x185, x186, x187, x188, x189, x190, x191, x192, x193, x194, x195, x196, x197, x198, x199, x200, x201, x202, x203, x204, x205, x206, x207, x208, x209, x210, x211, x212, x213, x214, x215, x216, x217, x218, x219], []⟩ wc := by
  unfold fn43
  simp only []
  conv => arg 2; whnf
  go_upto_region 41 with (fail)
  go_cut [199] (fun v wx => v = .bool (decide (a < s ∧ s < mid)) ∧ wc = wx)
  case first =>
    by_cases k1 : a < s
    · by_cases k2 : s < mid
      · go_wp2_with fail
        go_meet
        exact ⟨by simp [k1, k2], rfl⟩
      · go_wp2_with fail
        go_meet
        exact ⟨by simp [k1, k2], rfl⟩
    · go_wp2_with fail
      go_meet
      exact ⟨by simp [k1], rfl⟩
  case rest =>
    obtain ⟨rfl, rfl⟩ := hcut
    go_upto_if 199 with (fail)
    go_cut [18] (fun vm wx => vm = .int .i64 mid ∧ ∃ zs, Hid (Re ys zs a mid) ∧ Hid (Srt zs a mid) ∧ Own base wx (.slice (some ⟨g, 0, none⟩) N cap) zs ∧ Keep [g] w wx)
    case first =>
      by_cases hc : a < s ∧ s < mid
      · have hdec : decide (a < s ∧ s < mid) = true := decide_eq_true hc
        have hcall := IH.out base g cap ys a s mid wc (by omega) (by rw [HYL.out]; exact hO1) hc.1 hc.2 (by rw [HYL.out]; omega) (by rw [HYL.out]; exact hn) HP.out.2.1 HP.out.2.2.1
        rw [HYL.out] at hcall
        have HC := Lib.hid hcall
        clear hcall
        go_wp2_with fail
        refine HC.out.mono ?_
        rintro e' w1 ⟨rfl, zs, hO2, hR2, hS2, hK2⟩
        rw [HYL.out] at hO2
        go_wp2_with fail
        go_meet
        exact ⟨rfl, zs, Lib.hid hR2, Lib.hid hS2, hO2, hK1.trans hK2⟩
      · have hdec : decide (a < s ∧ s < mid) = false := decide_eq_false hc
        have hSl : Hid (Srt ys a mid) := Lib.hid (by
          rcases (show s = a ∨ s = mid by omega) with e1 | e1
          · rw [← e1]; exact HP.out.2.2.1
          · rw [← e1]; exact HP.out.2.1)
        go_wp2_with fail
        go_meet
        exact ⟨rfl, ys, Lib.hid (Re.refl _ _ _), hSl, hO1, hK1⟩
    case rest =>
      obtain ⟨rfl, zs, hR2, hS2, hO2, hK2⟩ := hcut
      clear hO1 hK1
      have hzl : zs.length = N := by rw [hR2.out.len]; exact HYL.out
      have HZL := Lib.hid hzl
      have hSa : Hid (Srt zs mid e) := Lib.hid (srt_out hR2.out HP.out.2.2.2.1 (.inr (Nat.le_refl _)))
      have hSb : Hid (Srt zs e b) := Lib.hid (srt_out hR2.out HP.out.2.2.2.2.1 (.inr bds.2.2.2.2.2))
      have hsep : Hid (∀ p q, a ≤ p → p < mid → mid ≤ q → q < b → Le (kat zs p) (kat zs q)) := Lib.hid (sep_left hR2.out HP.out.2.2.2.2.2)
      have hRe : Hid (Re xs zs a b) := Lib.hid (HP.out.1.trans (hR2.out.mono (Nat.le_refl _) (by omega)))
      clear hzl hR2
      have HT := Lib.hid (symTail43 dd base g cap xs zs a m b mid e N w wc IH hdd HN hb hn hmm ⟨bds.2.2.2.2.2, bds.2.2.2.1⟩ HZL hS2 hSa hSb hsep hRe hO2 hK2)
      go_step
      exact HT.out _ _ _ _ _ _ _ _ _ _ _ _ _ _ _ _ _ _ _ _ _ _ _ _ _ _ _ _ _ _ _ _ _ _ _ _ _ _ _ _ _ _ _ _ _ _ _ _ _ _ _ _ _ _ _ _ _ _ _ _ _ _ _ _ _ _ _ _ _ _ _ _ _ _ _ _ _ _ _ _ _ _ _ _ _ _ _ _ _ _ _ _ _ _ _ _ _ _ _ _ _ _ _ _ _ _ _ _ _ _ _ _ _ _ _ _ _ _ _ _ _ _ _ _ _ _ _ _ _ _ _ _ _ _ _ _ _ _ _ _ _ _ _ _ _ _ _ _ _ _ _ _ _ _ _ _ _ _ _ _ _ _ _ _ _ _ _ _ _ _ _ _ _ _ _ _ _ _ _ _ _ _ _ _ _ _ _ _ _ _ _ _ _ _ _ _ _ _ _ _ _ _ _ _ _ _ _ _ _ _ _ _ _
end Go.Proofs.Ytfipifjlmepooaa
