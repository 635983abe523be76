/- The quotient and the rest of a double word by the prime: math/bits.Div64 and Rem64. -/
import Derived.Test.YtampadcdmildfaaNtC
import Derived.Test.YtampadcdmildfaaExB
import Derived.Deep.Cut
import Derived.Laws.Bits64b
namespace Go.Proofs.Ytampadcdmildfaa
open Go.RowKit
set_option maxRecDepth 100000

theorem len_any (w : World) :
    Calls Try.prog 35 #[.int .u64 2305843009213693951] w fun e w' => e = .returned (.int .i64 61) ∧ w = w' := by
  go_enter Try.func35, Try.ntmps35
  go_wp2
  go_ret
  exact ⟨by kernel_rfl, rfl⟩
theorem lead_any (w : World) :
    Calls Try.prog 29 #[.int .u64 2305843009213693951] w fun e w' => e = .returned (.int .i64 3) ∧ w = w' := by
  go_enter Try.func29, Try.ntmps29
  go_wp2_with fail
  refine (len_any _).mono ?_
  rintro e w' ⟨rfl, rfl⟩
  go_wp2
  go_ret
  exact ⟨rfl, rfl⟩
theorem div_zero_any (l : Nat) (w : World) (hl : l < 18446744073709551616) :
    Calls Try.prog 26 #[.int .u64 0, .int .u64 (l : Int), .int .u64 2305843009213693951] w fun e w' => ∃ q : Int, e = .returned (.tuple #[.int .u64 q, .int .u64 ((l : Int) % 2305843009213693951)]) ∧ Below w.heap.size w w' := by
  go_enter Try.func26, Try.ntmps26
  go_wp2_with fail
  go_region
  go_wp2
  go_ret2
  exact ⟨_, rfl, (Below.refl _ w).drew⟩
theorem maskW (a : Nat) (ha : a < 18446744073709551616) : bits .and .u64 (a : Int) 4294967295 = ((a % 4294967296 : Nat) : Int) := by
  have h := bits_and_u64_nat a 4294967295 ha (by omega)
  have e : a &&& 4294967295 = a % 4294967296 := Nat.and_two_pow_sub_one_eq_mod a 32
  rw [e] at h
  exact h
theorem or8 (h k : Nat) (hh : h < 2305843009213693952) (hk : k < 8) : bits .or .u64 ((h : Int) * 8) (k : Int) = ((h * 8 + k : Nat) : Int) := by
  have e1 := bits_or_u64_nat (h * 8) k (by omega) (by omega)
  have e2 : h * 8 ||| k = h * 8 + k := by
    rw [← Nat.shiftLeft_eq h 3]
    exact (Nat.shiftLeft_add_eq_or_of_lt hk h).symm
  rw [e2, show ((h * 8 : Nat) : Int) = (h : Int) * 8 by omega] at e1
  exact e1
structure Div (h l n u1 u0 d1 N d0 R : Nat) : Prop where
  hn : h * 8 + l / 2305843009213693952 = n
  hu1 : l * 8 % 18446744073709551616 / 4294967296 = u1
  hu0 : l * 8 % 18446744073709551616 % 4294967296 = u0
  hd1 : (n * 4294967296 + u1) / 18446744073709551608 = d1
  hN : (n * 4294967296 + u1) % 18446744073709551608 = N
  hd0 : (N * 4294967296 + u0) / 18446744073709551608 = d0
  hR : (N * 4294967296 + u0) % 18446744073709551608 = R
theorem Div.last {h l n u1 u0 d1 N d0 R : Nat} (D : Div h l n u1 u0 d1 N d0 R) : R / 8 = (h * 18446744073709551616 + l) % 2305843009213693951 := by
  have e : n * 18446744073709551616 + u1 * 4294967296 + u0 = 8 * (h * 18446744073709551616 + l) := by
    have h1 := D.hn
    have h2 := D.hu1
    have h3 := D.hu0
    omega
  have h4 := two_digits n 18446744073709551608 u1 u0
  rw [D.hN, D.hR, e, show (18446744073709551608 : Nat) = 8 * 2305843009213693951 by decide, Nat.mul_mod_mul_left] at h4
  omega
theorem div_none (h l : Nat) (hl : l < 18446744073709551616) (hp : h < 2305843009213693951) : ∃ n u1 u0 d1 N d0 R, Div h l n u1 u0 d1 N d0 R ∧ n < 18446744073709551608 ∧ u1 < 4294967296 ∧ u0 < 4294967296 ∧ N < 18446744073709551608 ∧ R < 18446744073709551608 := by
  refine ⟨_, _, _, _, _, _, _, ⟨rfl, rfl, rfl, rfl, rfl, rfl, rfl⟩, by omega, by omega, by omega, ?_, ?_⟩
  · exact Nat.mod_lt _ (by decide)
  · exact Nat.mod_lt _ (by decide)
theorem wrapL (a : Nat) : ∃ x : Nat, x < 18446744073709551616 ∧ IntKind.u64.wrap (a : Int) = (x : Int) ∧ a % 18446744073709551616 = x := by
  refine ⟨a % 18446744073709551616, by omega, ?_, rfl⟩
  rw [IntKind.wrap_u64]
  omega
/-- what is left over of a digit, as the machine reckons it -/
theorem left_over {n u d N : Nat} (hd : (n * 4294967296 + u) / 18446744073709551608 = d) (hN : (n * 4294967296 + u) % 18446744073709551608 = N) :
    ∃ x y z : Nat, IntKind.u64.wrap ((n : Int) * 4294967296) = (x : Int) ∧ IntKind.u64.wrap ((x : Int) + (u : Int)) = (y : Int) ∧ IntKind.u64.wrap ((d : Int) * 18446744073709551608) = (z : Int) ∧ IntKind.u64.wrap ((y : Int) - (z : Int)) = (N : Int) := by
  have hNl : N < 18446744073709551608 := by rw [← hN]; exact Nat.mod_lt _ (by decide)
  have e := digit_left n 18446744073709551608 u d hd
  rw [hN] at e
  obtain ⟨t, ht⟩ : ∃ t, d * 18446744073709551608 = t := ⟨_, rfl⟩
  have htI : (d : Int) * 18446744073709551608 = (t : Int) := by omega
  rw [ht] at e
  rw [htI]
  refine ⟨n * 4294967296 % 18446744073709551616, (n * 4294967296 + u) % 18446744073709551616, t % 18446744073709551616, ?_, ?_, ?_, ?_⟩ <;> rw [IntKind.wrap_u64] <;> omega
set_option maxHeartbeats 4000000 in
theorem div_big_any (h l : Nat) (w : World) (hl : l < 18446744073709551616) (h0 : ¬ h = 0) (hp : h < 2305843009213693951) :
    Calls Try.prog 26 #[.int .u64 (h : Int), .int .u64 (l : Int), .int .u64 2305843009213693951] w fun e w' => ∃ q : Int, e = .returned (.tuple #[.int .u64 q, .int .u64 (((h * 18446744073709551616 + l) % 2305843009213693951 : Nat) : Int)]) ∧ w = w' := by
  have f0 : ¬ (h : Int) = 0 := by omega
  have f1 : ¬ (2305843009213693951 : Int) ≤ (h : Int) := by omega
  obtain ⟨n, u1, u0, d1, N, d0, R, D, hnl, hu1l, hu0l, hNl, hRl⟩ := div_none h l hl hp
  have e1 : bits .and .u64 18446744073709551608 4294967295 = 4294967288 := by decide
  have e2 : bits .or .u64 ((h : Int) * 8) ((l : Int) / 2305843009213693952) = (n : Int) := by
    have := or8 h (l / 2305843009213693952) (by omega) (by omega)
    rw [D.hn] at this
    rw [← this]
    congr 1
  obtain ⟨m, hml, hmw, hm⟩ := wrapL (l * 8)
  have e3 : IntKind.u64.wrap ((l : Int) * 8) = (m : Int) := by rw [← hmw]; congr 1
  have e4 : (m : Int) / 4294967296 = (u1 : Int) := by have := D.hu1; omega
  have e5 : bits .and .u64 (m : Int) 4294967295 = (u0 : Int) := by
    rw [maskW m hml, hm.symm, D.hu0]
  obtain ⟨Q, hQ⟩ : ∃ x, n / 4294967295 = x := ⟨_, rfl⟩
  obtain ⟨T, hT⟩ : ∃ x, n % 4294967295 = x := ⟨_, rfl⟩
  have e6 : (n : Int) / 4294967295 = (Q : Int) := by omega
  have e6' : Int.tdiv (n : Int) 4294967295 = (Q : Int) := by rw [Int.tdiv_eq_ediv_of_nonneg (by omega)]; exact e6
  have hQl : Q ≤ 4294967296 := by omega
  have e7 : (n : Int) - (Q : Int) * 4294967295 = (T : Int) := by omega
  have hTl : T < 4294967296 := by omega
  have HG1 := Lib.hid (Guess.first n 4294967295 4294967288 u1 hnl (by decide) (by decide) hu1l)
  rw [hQ, hT] at HG1
  obtain ⟨Q2, hQ2⟩ : ∃ x, N / 4294967295 = x := ⟨_, rfl⟩
  obtain ⟨T2, hT2⟩ : ∃ x, N % 4294967295 = x := ⟨_, rfl⟩
  have b6 : (N : Int) / 4294967295 = (Q2 : Int) := by omega
  have b6' : Int.tdiv (N : Int) 4294967295 = (Q2 : Int) := by rw [Int.tdiv_eq_ediv_of_nonneg (by omega)]; exact b6
  have hQ2l : Q2 ≤ 4294967296 := by omega
  have b7 : (N : Int) - (Q2 : Int) * 4294967295 = (T2 : Int) := by omega
  have hT2l : T2 < 4294967296 := by omega
  have HG2 := Lib.hid (Guess.first N 4294967295 4294967288 u0 hNl (by decide) (by decide) hu0l)
  rw [hQ2, hT2] at HG2
  obtain ⟨x1, y1, z1, c1, c2, c3, c4⟩ := left_over D.hd1 D.hN
  obtain ⟨x2, y2, z2, b1, b2, b3, b4⟩ := left_over D.hd0 D.hR
  obtain ⟨res, hres⟩ : ∃ x, R / 8 = x := ⟨_, rfl⟩
  have e8 : (R : Int) / 8 = (res : Int) := by omega
  have hl8 := D.last
  have HRI : Hid (((h : Int) * 18446744073709551616 + (l : Int)) % 2305843009213693951 = (res : Int)) := Lib.hid (by omega)
  have HRN : Hid ((h * 18446744073709551616 + l) % 2305843009213693951 = res) := Lib.hid (by omega)
  have HD1 : Hid ((n * 4294967296 + u1) / (4294967295 * 4294967296 + 4294967288) = d1) := Lib.hid D.hd1
  have HD0 : Hid ((N * 4294967296 + u0) / (4294967295 * 4294967296 + 4294967288) = d0) := Lib.hid D.hd0
  have HN1 : Hid (n < 4294967295 * 4294967296 + 4294967288) := Lib.hid hnl
  have HN2 : Hid (N < 4294967295 * 4294967296 + 4294967288) := Lib.hid hNl
  clear h0 hmw hm hQ hT hQ2 hT2 D hres hl8
  go_enter Try.func26, Try.ntmps26
  go_wp2_with fail
  refine (lead_any _).mono ?_
  rintro e w' ⟨rfl, rfl⟩
  go_wp2_with fail
  go_loopw [15, 16] (fun qv rv wr => wr = w ∧ ∃ q r : Nat, qv = .int .u64 (q : Int) ∧ rv = .int .u64 (r : Int) ∧ r < 4294967296 ∧ Guess n 4294967295 4294967288 u1 q r) (fun qv _ _ => (intOf qv).toNat)
  case atStart => exact ⟨rfl, Q, T, rfl, rfl, by omega, HG1.out⟩
  case round =>
    obtain ⟨rfl, qa, ra, rfl, rfl, hra, hg⟩ := hrel
    have hql : qa ≤ 4294967296 := hg.le
    obtain ⟨r2a, hr2⟩ : ∃ x, ra + 4294967295 = x := ⟨_, rfl⟩
    have hrI : (ra : Int) + 4294967295 = (r2a : Int) := by omega
    obtain ⟨x, hx⟩ : ∃ x, qa * 4294967288 = x := ⟨_, rfl⟩
    obtain ⟨y, hy⟩ : ∃ y, 4294967296 * ra + u1 = y := ⟨_, rfl⟩
    have hxI : (qa : Int) * 4294967288 = (x : Int) := by omega
    have hyI : 4294967296 * (ra : Int) + (u1 : Int) = (y : Int) := by omega
    have hyI2 : (ra : Int) * 4294967296 + (u1 : Int) = (y : Int) := by omega
    have hxl : x < 18446744073709551616 := by omega
    have hyl : y < 18446744073709551616 := by omega
    have HG := Lib.hid hg
    clear hg
    by_cases h1 : qa < 4294967296 ∧ x ≤ y
    · have hd : qa = d1 := by rw [← HD1.out]; exact (HG.out.done (by decide) (by omega)).symm
      obtain ⟨h1, h2⟩ := h1
      have g1 : ¬ (4294967296 : Int) ≤ (qa : Int) := by omega
      have g2 : ¬ (y : Int) < (x : Int) := by omega
      rw [← hd] at c3
      clear hr2 hx hy hd h1 h2
      go_wp2_with fail
      clear HG
      go_loopw [18, 16] (fun qv rv wx => wx = wr ∧ ∃ q r : Nat, qv = .int .u64 (q : Int) ∧ rv = .int .u64 (r : Int) ∧ r < 4294967296 ∧ Guess N 4294967295 4294967288 u0 q r) (fun qv _ _ => (intOf qv).toNat)
      case atStart => exact ⟨rfl, Q2, T2, rfl, rfl, by omega, HG2.out⟩
      case round =>
        obtain ⟨rfl, qb, rb, rfl, rfl, hrb, hg⟩ := hrel
        have hql : qb ≤ 4294967296 := hg.le
        obtain ⟨r2b, hr2⟩ : ∃ x, rb + 4294967295 = x := ⟨_, rfl⟩
        have hrI : (rb : Int) + 4294967295 = (r2b : Int) := by omega
        obtain ⟨x, hx⟩ : ∃ x, qb * 4294967288 = x := ⟨_, rfl⟩
        obtain ⟨y, hy⟩ : ∃ y, 4294967296 * rb + u0 = y := ⟨_, rfl⟩
        have hxI : (qb : Int) * 4294967288 = (x : Int) := by omega
        have hyI : 4294967296 * (rb : Int) + (u0 : Int) = (y : Int) := by omega
        have hyI2 : (rb : Int) * 4294967296 + (u0 : Int) = (y : Int) := by omega
        have hxl : x < 18446744073709551616 := by omega
        have hyl : y < 18446744073709551616 := by omega
        have HG := Lib.hid hg
        clear hg
        by_cases h1 : qb < 4294967296 ∧ x ≤ y
        · have hd : qb = d0 := by rw [← HD0.out]; exact (HG.out.done (by decide) (by omega)).symm
          obtain ⟨h1, h2⟩ := h1
          have g1 : ¬ (4294967296 : Int) ≤ (qb : Int) := by omega
          have g2 : ¬ (y : Int) < (x : Int) := by omega
          rw [← hd] at b3
          clear hr2 hx hy hd h1 h2
          go_wp2_with fail
          clear HG
          go_ret2
          first
            | (refine ⟨?_, rfl⟩; apply Exists.intro; rw [HRI.out]; rfl)
            | exact ⟨_, by rw [HRN.out]; rfl, rfl⟩
        · have hgt : 4294967296 ≤ qb ∨ 4294967296 * rb + u0 < qb * 4294967288 := by omega
          have hl := HG.out.less HN2.out (by omega) hgt
          rw [hr2] at hl
          obtain ⟨pb, hp⟩ : ∃ p, qb - 1 = p := ⟨_, rfl⟩
          rw [hp] at hl
          have hq0 : 1 ≤ qb := by omega
          have hpI : (qb : Int) - 1 = (pb : Int) := by omega
          have HL := Lib.hid hl
          clear hl hp
          have hgg : 4294967296 ≤ qb ∨ (qb < 4294967296 ∧ y < x) := by omega
          by_cases h3 : 4294967296 ≤ r2b
          · have hd : pb = d0 := by rw [← HD0.out]; exact (HL.out.out (by decide) (by decide) h3).symm
            have g3 : (4294967296 : Int) ≤ (r2b : Int) := by omega
            rw [← hd] at b3
            clear hd h1 hgt hr2 hx hy
            rcases hgg with g | ⟨g, g'⟩
            · have g1 : (4294967296 : Int) ≤ (qb : Int) := by omega
              clear g
              go_wp2_with fail
              clear HG HL
              go_ret2
              first
                | (refine ⟨?_, rfl⟩; apply Exists.intro; rw [HRI.out]; rfl)
                | exact ⟨_, by rw [HRN.out]; rfl, rfl⟩
            · have g1 : ¬ (4294967296 : Int) ≤ (qb : Int) := by omega
              have g2 : (y : Int) < (x : Int) := by omega
              clear g g'
              go_wp2_with fail
              clear HG HL
              go_ret2
              first
                | (refine ⟨?_, rfl⟩; apply Exists.intro; rw [HRI.out]; rfl)
                | exact ⟨_, by rw [HRN.out]; rfl, rfl⟩
          · have g3 : ¬ (4294967296 : Int) ≤ (r2b : Int) := by omega
            clear h1 hgt hr2 hx hy
            rcases hgg with g | ⟨g, g'⟩
            · have g1 : (4294967296 : Int) ≤ (qb : Int) := by omega
              clear g
              go_wp2
              go_roundw
              case rel => exact ⟨trivial, pb, r2b, rfl, rfl, by omega, HL.out⟩
              case measure => (simp [intOf] <;> omega)
            · have g1 : ¬ (4294967296 : Int) ≤ (qb : Int) := by omega
              have g2 : (y : Int) < (x : Int) := by omega
              clear g g'
              go_wp2
              go_roundw
              case rel => exact ⟨trivial, pb, r2b, rfl, rfl, by omega, HL.out⟩
              case measure => (simp [intOf] <;> omega)
    · have hgt : 4294967296 ≤ qa ∨ 4294967296 * ra + u1 < qa * 4294967288 := by omega
      have hl := HG.out.less HN1.out (by omega) hgt
      rw [hr2] at hl
      obtain ⟨pa, hp⟩ : ∃ p, qa - 1 = p := ⟨_, rfl⟩
      rw [hp] at hl
      have hq0 : 1 ≤ qa := by omega
      have hpI : (qa : Int) - 1 = (pa : Int) := by omega
      have HL := Lib.hid hl
      clear hl hp
      have hgg : 4294967296 ≤ qa ∨ (qa < 4294967296 ∧ y < x) := by omega
      by_cases h3 : 4294967296 ≤ r2a
      · have hd : pa = d1 := by rw [← HD1.out]; exact (HL.out.out (by decide) (by decide) h3).symm
        have g3 : (4294967296 : Int) ≤ (r2a : Int) := by omega
        rw [← hd] at c3
        clear hd h1 hgt hr2 hx hy
        rcases hgg with g | ⟨g, g'⟩
        · have g1 : (4294967296 : Int) ≤ (qa : Int) := by omega
          clear g
          go_wp2_with fail
          clear HG HL
          go_loopw [18, 16] (fun qv rv wx => wx = wr ∧ ∃ q r : Nat, qv = .int .u64 (q : Int) ∧ rv = .int .u64 (r : Int) ∧ r < 4294967296 ∧ Guess N 4294967295 4294967288 u0 q r) (fun qv _ _ => (intOf qv).toNat)
          case atStart => exact ⟨rfl, Q2, T2, rfl, rfl, by omega, HG2.out⟩
          case round =>
            obtain ⟨rfl, qb, rb, rfl, rfl, hrb, hg⟩ := hrel
            have hql : qb ≤ 4294967296 := hg.le
            obtain ⟨r2b, hr2⟩ : ∃ x, rb + 4294967295 = x := ⟨_, rfl⟩
            have hrI : (rb : Int) + 4294967295 = (r2b : Int) := by omega
            obtain ⟨x, hx⟩ : ∃ x, qb * 4294967288 = x := ⟨_, rfl⟩
            obtain ⟨y, hy⟩ : ∃ y, 4294967296 * rb + u0 = y := ⟨_, rfl⟩
            have hxI : (qb : Int) * 4294967288 = (x : Int) := by omega
            have hyI : 4294967296 * (rb : Int) + (u0 : Int) = (y : Int) := by omega
            have hyI2 : (rb : Int) * 4294967296 + (u0 : Int) = (y : Int) := by omega
            have hxl : x < 18446744073709551616 := by omega
            have hyl : y < 18446744073709551616 := by omega
            have HG := Lib.hid hg
            clear hg
            by_cases h1 : qb < 4294967296 ∧ x ≤ y
            · have hd : qb = d0 := by rw [← HD0.out]; exact (HG.out.done (by decide) (by omega)).symm
              obtain ⟨h1, h2⟩ := h1
              have g1 : ¬ (4294967296 : Int) ≤ (qb : Int) := by omega
              have g2 : ¬ (y : Int) < (x : Int) := by omega
              rw [← hd] at b3
              clear hr2 hx hy hd h1 h2
              go_wp2_with fail
              clear HG
              go_ret2
              first
                | (refine ⟨?_, rfl⟩; apply Exists.intro; rw [HRI.out]; rfl)
                | exact ⟨_, by rw [HRN.out]; rfl, rfl⟩
            · have hgt : 4294967296 ≤ qb ∨ 4294967296 * rb + u0 < qb * 4294967288 := by omega
              have hl := HG.out.less HN2.out (by omega) hgt
              rw [hr2] at hl
              obtain ⟨pb, hp⟩ : ∃ p, qb - 1 = p := ⟨_, rfl⟩
              rw [hp] at hl
              have hq0 : 1 ≤ qb := by omega
              have hpI : (qb : Int) - 1 = (pb : Int) := by omega
              have HL := Lib.hid hl
              clear hl hp
              have hgg : 4294967296 ≤ qb ∨ (qb < 4294967296 ∧ y < x) := by omega
              by_cases h3 : 4294967296 ≤ r2b
              · have hd : pb = d0 := by rw [← HD0.out]; exact (HL.out.out (by decide) (by decide) h3).symm
                have g3 : (4294967296 : Int) ≤ (r2b : Int) := by omega
                rw [← hd] at b3
                clear hd h1 hgt hr2 hx hy
                rcases hgg with g | ⟨g, g'⟩
                · have g1 : (4294967296 : Int) ≤ (qb : Int) := by omega
                  clear g
                  go_wp2_with fail
                  clear HG HL
                  go_ret2
                  first
                    | (refine ⟨?_, rfl⟩; apply Exists.intro; rw [HRI.out]; rfl)
                    | exact ⟨_, by rw [HRN.out]; rfl, rfl⟩
                · have g1 : ¬ (4294967296 : Int) ≤ (qb : Int) := by omega
                  have g2 : (y : Int) < (x : Int) := by omega
                  clear g g'
                  go_wp2_with fail
                  clear HG HL
                  go_ret2
                  first
                    | (refine ⟨?_, rfl⟩; apply Exists.intro; rw [HRI.out]; rfl)
                    | exact ⟨_, by rw [HRN.out]; rfl, rfl⟩
              · have g3 : ¬ (4294967296 : Int) ≤ (r2b : Int) := by omega
                clear h1 hgt hr2 hx hy
                rcases hgg with g | ⟨g, g'⟩
                · have g1 : (4294967296 : Int) ≤ (qb : Int) := by omega
                  clear g
                  go_wp2
                  go_roundw
                  case rel => exact ⟨trivial, pb, r2b, rfl, rfl, by omega, HL.out⟩
                  case measure => (simp [intOf] <;> omega)
                · have g1 : ¬ (4294967296 : Int) ≤ (qb : Int) := by omega
                  have g2 : (y : Int) < (x : Int) := by omega
                  clear g g'
                  go_wp2
                  go_roundw
                  case rel => exact ⟨trivial, pb, r2b, rfl, rfl, by omega, HL.out⟩
                  case measure => (simp [intOf] <;> omega)
        · have g1 : ¬ (4294967296 : Int) ≤ (qa : Int) := by omega
          have g2 : (y : Int) < (x : Int) := by omega
          clear g g'
          go_wp2_with fail
          clear HG HL
          go_loopw [18, 16] (fun qv rv wx => wx = wr ∧ ∃ q r : Nat, qv = .int .u64 (q : Int) ∧ rv = .int .u64 (r : Int) ∧ r < 4294967296 ∧ Guess N 4294967295 4294967288 u0 q r) (fun qv _ _ => (intOf qv).toNat)
          case atStart => exact ⟨rfl, Q2, T2, rfl, rfl, by omega, HG2.out⟩
          case round =>
            obtain ⟨rfl, qb, rb, rfl, rfl, hrb, hg⟩ := hrel
            have hql : qb ≤ 4294967296 := hg.le
            obtain ⟨r2b, hr2⟩ : ∃ x, rb + 4294967295 = x := ⟨_, rfl⟩
            have hrI : (rb : Int) + 4294967295 = (r2b : Int) := by omega
            obtain ⟨x, hx⟩ : ∃ x, qb * 4294967288 = x := ⟨_, rfl⟩
            obtain ⟨y, hy⟩ : ∃ y, 4294967296 * rb + u0 = y := ⟨_, rfl⟩
            have hxI : (qb : Int) * 4294967288 = (x : Int) := by omega
            have hyI : 4294967296 * (rb : Int) + (u0 : Int) = (y : Int) := by omega
            have hyI2 : (rb : Int) * 4294967296 + (u0 : Int) = (y : Int) := by omega
            have hxl : x < 18446744073709551616 := by omega
            have hyl : y < 18446744073709551616 := by omega
            have HG := Lib.hid hg
            clear hg
            by_cases h1 : qb < 4294967296 ∧ x ≤ y
            · have hd : qb = d0 := by rw [← HD0.out]; exact (HG.out.done (by decide) (by omega)).symm
              obtain ⟨h1, h2⟩ := h1
              have g1 : ¬ (4294967296 : Int) ≤ (qb : Int) := by omega
              have g2 : ¬ (y : Int) < (x : Int) := by omega
              rw [← hd] at b3
              clear hr2 hx hy hd h1 h2
              go_wp2_with fail
              clear HG
              go_ret2
              first
                | (refine ⟨?_, rfl⟩; apply Exists.intro; rw [HRI.out]; rfl)
                | exact ⟨_, by rw [HRN.out]; rfl, rfl⟩
            · have hgt : 4294967296 ≤ qb ∨ 4294967296 * rb + u0 < qb * 4294967288 := by omega
              have hl := HG.out.less HN2.out (by omega) hgt
              rw [hr2] at hl
              obtain ⟨pb, hp⟩ : ∃ p, qb - 1 = p := ⟨_, rfl⟩
              rw [hp] at hl
              have hq0 : 1 ≤ qb := by omega
              have hpI : (qb : Int) - 1 = (pb : Int) := by omega
              have HL := Lib.hid hl
              clear hl hp
              have hgg : 4294967296 ≤ qb ∨ (qb < 4294967296 ∧ y < x) := by omega
              by_cases h3 : 4294967296 ≤ r2b
              · have hd : pb = d0 := by rw [← HD0.out]; exact (HL.out.out (by decide) (by decide) h3).symm
                have g3 : (4294967296 : Int) ≤ (r2b : Int) := by omega
                rw [← hd] at b3
                clear hd h1 hgt hr2 hx hy
                rcases hgg with g | ⟨g, g'⟩
                · have g1 : (4294967296 : Int) ≤ (qb : Int) := by omega
                  clear g
                  go_wp2_with fail
                  clear HG HL
                  go_ret2
                  first
                    | (refine ⟨?_, rfl⟩; apply Exists.intro; rw [HRI.out]; rfl)
                    | exact ⟨_, by rw [HRN.out]; rfl, rfl⟩
                · have g1 : ¬ (4294967296 : Int) ≤ (qb : Int) := by omega
                  have g2 : (y : Int) < (x : Int) := by omega
                  clear g g'
                  go_wp2_with fail
                  clear HG HL
                  go_ret2
                  first
                    | (refine ⟨?_, rfl⟩; apply Exists.intro; rw [HRI.out]; rfl)
                    | exact ⟨_, by rw [HRN.out]; rfl, rfl⟩
              · have g3 : ¬ (4294967296 : Int) ≤ (r2b : Int) := by omega
                clear h1 hgt hr2 hx hy
                rcases hgg with g | ⟨g, g'⟩
                · have g1 : (4294967296 : Int) ≤ (qb : Int) := by omega
                  clear g
                  go_wp2
                  go_roundw
                  case rel => exact ⟨trivial, pb, r2b, rfl, rfl, by omega, HL.out⟩
                  case measure => (simp [intOf] <;> omega)
                · have g1 : ¬ (4294967296 : Int) ≤ (qb : Int) := by omega
                  have g2 : (y : Int) < (x : Int) := by omega
                  clear g g'
                  go_wp2
                  go_roundw
                  case rel => exact ⟨trivial, pb, r2b, rfl, rfl, by omega, HL.out⟩
                  case measure => (simp [intOf] <;> omega)
      · have g3 : ¬ (4294967296 : Int) ≤ (r2a : Int) := by omega
        clear h1 hgt hr2 hx hy
        rcases hgg with g | ⟨g, g'⟩
        · have g1 : (4294967296 : Int) ≤ (qa : Int) := by omega
          clear g
          go_wp2
          go_roundw
          case rel => exact ⟨trivial, pa, r2a, rfl, rfl, by omega, HL.out⟩
          case measure => (simp [intOf] <;> omega)
        · have g1 : ¬ (4294967296 : Int) ≤ (qa : Int) := by omega
          have g2 : (y : Int) < (x : Int) := by omega
          clear g g'
          go_wp2
          go_roundw
          case rel => exact ⟨trivial, pa, r2a, rfl, rfl, by omega, HL.out⟩
          case measure => (simp [intOf] <;> omega)
end Go.Proofs.Ytampadcdmildfaa
