/- The merge of two sorted stretches: the search's plain part, and what follows the search. -/
import Derived.Test.YtfipifjlmepooaaPu
namespace Go.Proofs.Ytfipifjlmepooaa
open Go.RowKit Go.Lib
set_option linter.unusedVariables false
set_option linter.unusedSimpArgs false

/-- where the search begins and ends -/
structure Bnd (a m b mid s0 r0 : Nat) : Prop where
  h1 : a ≤ s0
  h2 : s0 ≤ r0
  h3 : r0 ≤ m
  h4 : r0 ≤ mid
  h5 : mid + m ≤ b + s0
  h6 : s0 = a ∨ mid + m = b + s0
  h7 : r0 = m ∨ r0 = mid
theorem bnd_of (a m b mid : Nat) (ham : a < m) (hmb : m < b) (hmid : mid = (a + b) / 2) : (mid < m → Bnd a m b mid (mid + m - b) mid) ∧ (m ≤ mid → Bnd a m b mid a m) :=
  ⟨fun h => ⟨by omega, by omega, by omega, by omega, by omega, by omega, by omega⟩, fun h => ⟨by omega, by omega, by omega, by omega, by omega, by omega, by omega⟩⟩
/-- what the search has found -/
structure Fnd (xs : List Pr) (p s0 r0 s r : Nat) : Prop where
  lo : ∀ c, s0 ≤ c → c < s → Le (kat xs c) (kat xs (p - c))
  hi : ∀ c, r ≤ c → c < r0 → Lt (kat xs (p - c)) (kat xs c)
theorem fnd_up {xs : List Pr} {a m b mid s0 r0 s r c p : Nat} (hB : Bnd a m b mid s0 r0) (hp : p + 1 = mid + m) (hmb : m < b) (hs1 : Srt xs a m) (hs2 : Srt xs m b) (h : Fnd xs p s0 r0 s r) (hc : s0 ≤ c ∧ c < r0) (he : Le (kat xs c) (kat xs (p - c))) : Fnd xs p s0 r0 (c + 1) r := by
  obtain ⟨h1, h2, h3, h4, h5, h6, h7⟩ := hB
  refine ⟨fun c' c1 c2 => ?_, h.hi⟩
  by_cases e : c' = c
  · rw [e]; exact he
  · exact ((hs1 c' c (by omega) (by omega) (by omega)).trans he).trans (hs2 (p - c) (p - c') (by omega) (by omega) (by omega))
theorem fnd_dn {xs : List Pr} {a m b mid s0 r0 s r c p : Nat} (hB : Bnd a m b mid s0 r0) (hp : p + 1 = mid + m) (hmb : m < b) (hs1 : Srt xs a m) (hs2 : Srt xs m b) (h : Fnd xs p s0 r0 s r) (hc : s0 ≤ c ∧ c < r0) (he : Lt (kat xs (p - c)) (kat xs c)) : Fnd xs p s0 r0 s c := by
  obtain ⟨h1, h2, h3, h4, h5, h6, h7⟩ := hB
  refine ⟨h.lo, fun c' c1 c2 => ?_⟩
  by_cases e : c' = c
  · rw [e]; exact he
  · exact ((hs2 (p - c') (p - c) (by omega) (by omega) (by omega)).trans_lt he).trans_le (hs1 c c' (by omega) (by omega) (by omega))
theorem fnd_end {xs : List Pr} {a m b mid s0 r0 s p e : Nat} (hB : Bnd a m b mid s0 r0) (hp : p + 1 = mid + m) (ham : a < m) (hmb : m < b) (h : Fnd xs p s0 r0 s s) (hs : s0 ≤ s ∧ s ≤ r0) (he : e + s = mid + m) :
    a ≤ s ∧ s ≤ m ∧ m ≤ e ∧ e ≤ b ∧ s ≤ mid ∧ mid ≤ e ∧ (a < s → e < b → Le (kat xs (s - 1)) (kat xs e)) ∧ (s < m → m < e → Lt (kat xs (e - 1)) (kat xs s)) := by
  obtain ⟨h1, h2, h3, h4, h5, h6, h7⟩ := hB
  refine ⟨by omega, by omega, by omega, by omega, by omega, by omega, fun c1 c2 => ?_, fun c1 c2 => ?_⟩
  · have := h.lo (s - 1) (by omega) (by omega)
    rw [show p - (s - 1) = e by omega] at this
    exact this
  · have := h.hi s (Nat.le_refl _) (by omega)
    rw [show p - s = e - 1 by omega] at this
    exact this

theorem split4 {xs : List Pr} {s m e : Nat} (h1 : s ≤ m) (h2 : m ≤ e) (h3 : e ≤ xs.length) : xs = xs.take s ++ (xs.drop s).take (m - s) ++ (xs.drop m).take (e - m) ++ xs.drop e ∧
    (xs.take s).length = s ∧ ((xs.drop s).take (m - s)).length = m - s ∧ ((xs.drop m).take (e - m)).length = e - m := by
  refine ⟨?_, by rw [List.length_take]; omega, by rw [List.length_take, List.length_drop]; omega, by rw [List.length_take, List.length_drop]; omega⟩
  have a1 : xs.drop s = (xs.drop s).take (m - s) ++ xs.drop m := by
    conv => lhs; rw [← List.take_append_drop (m - s) (xs.drop s)]
    rw [List.drop_drop, show s + (m - s) = m by omega]
  have a2 : xs.drop m = (xs.drop m).take (e - m) ++ xs.drop e := by
    conv => lhs; rw [← List.take_append_drop (e - m) (xs.drop m)]
    rw [List.drop_drop, show m + (e - m) = e by omega]
  conv => lhs; rw [← List.take_append_drop s xs, a1, a2]
  simp only [List.append_assoc]


/-- the code from a region on -/
def startsAt (k : Nat) : Code → Bool
  | .region i _ _ => i == k
  | .seq a _ => startsAt k a
  | _ => false
def fromRegion (k : Nat) : Code → Option Code
  | .seq a b => if startsAt k a then some (.seq a b) else fromRegion k b
  | _ => none
noncomputable def tail38 : Code := (Try.f55.body.bind (fromRegion 38)).getD .skip

noncomputable def tail43 : Code := (Try.f55.body.bind (fromRegion 43)).getD .skip
set_option maxRecDepth 1000000 in
set_option maxHeartbeats 32000000 in
theorem symTail43 (dd base g cap : Nat) (xs zs : List Pr) (a m b mid e N : Nat) (w wc : World)
    (IH : Hid (∀ (base g cap : Nat) (xs : List Pr) (a m b : Nat) (w : World), b - a ≤ dd → Own base w (.slice (some ⟨g, 0, none⟩) xs.length cap) xs → a < m → m < b → b ≤ xs.length → xs.length ≤ 1000 → Srt xs a m → Srt xs m b →
      Calls Try.prog 55 #[.slice (some ⟨g, 0, none⟩) xs.length cap, .int .i64 a, .int .i64 m, .int .i64 b, fn43] w (MergePost base g cap xs a b w)))
    (hdd : b - a ≤ dd + 1) (HN : Hid (N = xs.length)) (hb : b ≤ N) (hn : N ≤ 1000) (hmm : a < mid ∧ mid < b) (hbe : mid ≤ e ∧ e ≤ b) (HZL : Hid (zs.length = N)) (hS2 : Hid (Srt zs a mid)) (hSa : Hid (Srt zs mid e)) (hSb : Hid (Srt zs e b))
    (hsep : Hid (∀ p q, a ≤ p → p < mid → mid ≤ q → q < b → Le (kat zs p) (kat zs q))) (hRe : Hid (Re xs zs a b))
    (hO2 : Own base wc (.slice (some ⟨g, 0, none⟩) N cap) zs) (hK2 : Keep [g] w wc) (x5 x6 x7 x8 x9 x10 x11 x12 x13 x14 x15 x16 x17 x19 x20 x21 x22 x23 x25 x26 x27 x28 x29 x30 x31 x32 x33 x34 x35 x36 x37 x38 x39 x40 x41 x42 x43 x44 x45 x46 x47 x48 x49 x50 x51 x52 x53 x54 x55 x56 x57 x58 x59 x60 x61 x62 x63 x64 x65 x66 x67 x68 x69 x70 x71 x72 x73 x74 x75 x76 x77 x78 x79 x80 x81 x82 x83 x84 x85 x86 x87 x88 x89 x90 x91 x92 x93 x94 x95 x96 x97 x98 x99 x100 x101 x102 x103 x104 x105 x106 x107 x108 x109 x110 x111 x112 x113 x114 x115 x116 x117 x118 x119 x120 x121 x122 x123 x124 x125 x126 x127 x128 x129 x130 x131 x132 x133 x134 x135 x136 x137 x138 x139 x140 x141 x142 x143 x144 x145 x146 x147 x148 x149 x150 x151 x152 x153 x154 x155 x156 x157 x158 x159 x160 x161 x162 x163 x164 x165 x166 x167 x168 x169 x170 x171 x172 x173 x174 x175 x176 x177 x178 x179 x180 x181 x182 x183 x184 x185 x186 x187 x188 x189 x190 x191 x192 x193 x194 x195 x196 x197 x198 x199 x200 x201 x202 x203 x204 x205 x206 x207 x208 x209 x210 x211 x212 x213 x214 x215 x216 x217 x218 x219 : Value) :
    Code.wp Try.prog tail43 (bodyPost Try.prog Try.f55 (MergePost base g cap xs a b w)) ⟨#[.slice (some ⟨g, 0, none⟩) N cap, .int .i64 a, .int .i64 m, .int .i64 b, fn43, x5, x6, x7, x8, x9, x10, x11, x12, x13, x14, x15, x16, x17, .int .i64 mid, x19, x20, x21, x22, x23, .int .i64 e, x25, x26, x27, x28, x29, x30, x31, x32, x33, x34, x35, x36, x37, x38, x39, x40, x41, x42, x43, x44, x45, x46, x47, x48, x49, x50, x51, x52, x53, x54, x55, x56, x57, x58, x59, x60, x61, x62, x63, x64, x65, x66, x67, x68, x69, x70, x71, x72, x73, x74, x75, x76, x77, x78, x79, x80, x81, x82, x83, x84, x85, x86, x87, x88, x89, x90, x91, x92, x93, x94, x95, x96, x97, x98, x99, x100, x101, x102, x103, x104, x105, x106, x107, x108, x109, x110, x111, x112, x113, x114, x115, x116, x117, x118, x119, x120, x121, x122, x123, x124, x125, x126, x127, x128, x129, x130, x131, x132, x133, x134, x135, x136, x137, x138, x139, x140, x141, x142, x143, x144, x145, x146, x147, x148, x149, x150, x151, x152, x153, x154, x155, x156, x157, x158, x159, x160, x161, x162, x163, x164, x165, x166, x167, x168, x169, x170, x171, x172, x173, x174, x175, x176, x177, x178, x179, x180, x181, x182, x183, x184, x185, x186, x187, x188, x189, x190, x191, x192, x193, x194, x195, x196, x197, x198, x199, x200, x201, x202, x203, x204, x205, x206, x207, x208, x209, x210, x211, x212, x213, x214, x215, x216, x217, x218, x219], []⟩ wc := by
  unfold fn43
  simp only []
  conv => arg 2; whnf
  go_upto_region 43 with (fail)
  go_cut [213] (fun v wx => v = .bool (decide (mid < e ∧ e < b)) ∧ wc = wx)
  case first =>
    by_cases k1 : mid < e
    · by_cases k2 : e < b
      · go_wp2_with fail
        go_meet
        exact ⟨by simp [k1, k2], rfl⟩
      · go_wp2_with fail
        go_meet
        exact ⟨by simp [k1, k2], rfl⟩
    · go_wp2_with fail
      go_meet
      exact ⟨by simp [k1], rfl⟩
  case rest =>
    obtain ⟨rfl, rfl⟩ := hcut
    by_cases hc : mid < e ∧ e < b
    · have hdec : decide (mid < e ∧ e < b) = true := decide_eq_true hc
      have hcall := IH.out base g cap zs mid e b wc (by omega) (by rw [HZL.out]; exact hO2) hc.1 hc.2 (by rw [HZL.out]; exact hb) (by rw [HZL.out]; exact hn) hSa.out hSb.out
      rw [HZL.out] at hcall
      have HC := Lib.hid hcall
      clear hcall
      go_wp2_with fail
      refine HC.out.mono ?_
      rintro e' w1 ⟨rfl, zz, hO3, hR3, hS3, hK3⟩
      rw [HZL.out] at hO3
      go_wp2_with fail
      refine bodyPost_end (results_none rfl _ _ _) rfl ?_
      refine ⟨rfl, zz, by rw [← HN.out]; exact hO3, hRe.out.trans (hR3.mono (by omega) (Nat.le_refl _)), ?_, hK2.trans hK3⟩
      exact srt_join (ys := zz) (zs := zz) (by omega) (by omega) (srt_out hR3 hS2.out (.inl (Nat.le_refl _))) hS3 (sep_right hR3 hsep.out)
    · have hdec : decide (mid < e ∧ e < b) = false := decide_eq_false hc
      have hSr : Srt zs mid b := by
        rcases (show e = mid ∨ e = b by omega) with e1 | e1
        · rw [← e1]; exact hSb.out
        · rw [← e1]; exact hSa.out
      have HSr := Lib.hid hSr
      clear hSr
      go_wp2_with fail
      refine bodyPost_end (results_none rfl _ _ _) rfl ?_
      refine ⟨rfl, zs, by rw [← HN.out]; exact hO2, hRe.out, ?_, hK2⟩
      exact srt_join (ys := zs) (zs := zs) (by omega) (by omega) hS2.out HSr.out hsep.out
end Go.Proofs.Ytfipifjlmepooaa
