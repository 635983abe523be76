/- isPageSize, Validate, find and spend of the program. -/
import Derived.Test.YtgoajnljgbcmdaaFlF
namespace Go.Proofs.Ytgoajnljgbcmdaa
open Go.RowKit
set_option maxRecDepth 100000

theorem wrap_in (x : Int) (h1 : -9223372036854775808 ≤ x) (h2 : x ≤ 9223372036854775807) : wrap64 x = x := by unfold wrap64; omega
theorem isp_lo (P : Int) (w : World) (h1 : P < 512) :
    Calls Try.prog 22 #[.int .i64 P] w fun e w' => e = .returned (.bool false) ∧ w = w' := by
  have f1 : ¬ 512 ≤ P := by omega
  go_enter Try.func22, Try.ntmps22
  go_wp2
  go_ret
  exact ⟨rfl, rfl⟩
theorem isp_hi (P : Int) (w : World) (h2 : 8192 < P) :
    Calls Try.prog 22 #[.int .i64 P] w fun e w' => e = .returned (.bool false) ∧ w = w' := by
  have f1 : 512 ≤ P := by omega
  have f2 : ¬ P ≤ 8192 := by omega
  go_enter Try.func22, Try.ntmps22
  go_wp2
  go_ret
  exact ⟨rfl, rfl⟩
theorem isp_ok (P : Int) (w : World) (h1 : 512 ≤ P) (h2 : P ≤ 8192) :
    Calls Try.prog 22 #[.int .i64 P] w fun e w' => e = .returned (.bool true) ∧ w = w' := by
  go_enter Try.func22, Try.ntmps22
  go_wp2
  go_ret
  exact ⟨rfl, rfl⟩
set_option maxHeartbeats 1000000 in
theorem valE_lo (P : Int) (A : Option Addr) (n c : Nat) (w : World) (h1 : P < 512) :
    Calls Try.prog 13 #[.agg #[.int .i64 P, .slice A n c]] w fun e w' => e = .returned (.int .i64 (valE P n)) ∧ Below w.heap.size w w' := by
  have HB0 := Lib.hid ((Below.refl w.heap.size w).alloc (Nat.le_refl _) (.cells #[.int .i64 P, .slice A n c] 24))
  have hv : valE P n = 9 := by
    unfold valE; rw [if_pos (by omega)]
  rw [hv]
  clear hv
  have c1 := fun w => isp_lo P w h1
  have C1 := Lib.hid c1
  clear c1
  go_enter Try.func13, Try.ntmps13
  go_wp2_with fail
  refine (C1.out _).mono ?_
  rintro e w1 ⟨rfl, rfl⟩
  go_wp2
  go_ret
  exact ⟨rfl, HB0.out⟩
set_option maxHeartbeats 1000000 in
theorem valE_hi (P : Int) (A : Option Addr) (n c : Nat) (w : World) (h2 : 8192 < P) :
    Calls Try.prog 13 #[.agg #[.int .i64 P, .slice A n c]] w fun e w' => e = .returned (.int .i64 (valE P n)) ∧ Below w.heap.size w w' := by
  have HB0 := Lib.hid ((Below.refl w.heap.size w).alloc (Nat.le_refl _) (.cells #[.int .i64 P, .slice A n c] 24))
  have hv : valE P n = 9 := by
    unfold valE; rw [if_pos (by omega)]
  rw [hv]
  clear hv
  have c1 := fun w => isp_hi P w h2
  have C1 := Lib.hid c1
  clear c1
  go_enter Try.func13, Try.ntmps13
  go_wp2_with fail
  refine (C1.out _).mono ?_
  rintro e w1 ⟨rfl, rfl⟩
  go_wp2
  go_ret
  exact ⟨rfl, HB0.out⟩
set_option maxHeartbeats 1000000 in
theorem valE_none (p : Nat) (A : Option Addr) (n c : Nat) (w : World) (h1 : 512 ≤ p) (h2 : p ≤ 8192) (_ : n ≤ 9223372036854775807) (h3 : n = 0) :
    Calls Try.prog 13 #[.agg #[.int .i64 (p : Int), .slice A n c]] w fun e w' => e = .returned (.int .i64 (valE (p : Int) n)) ∧ Below w.heap.size w w' := by
  have HB0 := Lib.hid ((Below.refl w.heap.size w).alloc (Nat.le_refl _) (.cells #[.int .i64 (p : Int), .slice A n c] 24))
  have hv : valE (p : Int) n = 4 := by
    unfold valE
    rw [if_neg (by omega), Int.toNat_natCast]
    exact if_pos (by omega)
  rw [hv]
  clear hv
  have c1 := fun w => isp_ok (p : Int) w (by omega) (by omega)
  have hpz : ¬ (p : Int) = 0 := by omega
  have h8 : wrap64 (8 * (p : Int)) = 8 * (p : Int) := wrap_in _ (by omega) (by omega)
  have hrT : Int.tmod (n : Int) (p : Int) = ((n % p : Nat) : Int) := by rw [Int.tmod_eq_emod_of_nonneg (by omega)]; exact (Int.natCast_emod _ _).symm
  have hrl : n % p < p := Nat.mod_lt _ (by omega)
  obtain ⟨r, hr⟩ : ∃ r, n % p = r := ⟨_, rfl⟩
  rw [hr] at hrT hrl
  have hrw : wrap64 (r : Int) = (r : Int) := wrap_in _ (by omega) (by omega)
  have g1 : ((n : Int) == 0) = true := by simpa using h3
  clear hr h3
  have C1 := Lib.hid c1
  clear c1
  go_enter Try.func13, Try.ntmps13
  go_wp2_with fail
  refine (C1.out _).mono ?_
  rintro e w1 ⟨rfl, rfl⟩
  go_wp2
  go_ret
  exact ⟨rfl, HB0.out⟩
set_option maxHeartbeats 1000000 in
theorem valE_many (p : Nat) (A : Option Addr) (n c : Nat) (w : World) (h1 : 512 ≤ p) (h2 : p ≤ 8192) (_ : n ≤ 9223372036854775807) (h3 : ¬ n = 0) (h4 : 8 * p < n) :
    Calls Try.prog 13 #[.agg #[.int .i64 (p : Int), .slice A n c]] w fun e w' => e = .returned (.int .i64 (valE (p : Int) n)) ∧ Below w.heap.size w w' := by
  have HB0 := Lib.hid ((Below.refl w.heap.size w).alloc (Nat.le_refl _) (.cells #[.int .i64 (p : Int), .slice A n c] 24))
  have hv : valE (p : Int) n = 4 := by
    unfold valE
    rw [if_neg (by omega), Int.toNat_natCast]
    refine if_pos ?_
    by_cases hm : n % p = 0
    · have h9 := Nat.div_add_mod n p
      rcases Nat.lt_or_ge 8 (n / p) with h10 | h10
      · exact .inr (.inr h10)
      · have h11 : p * (n / p) ≤ p * 8 := Nat.mul_le_mul_left _ h10
        omega
    · exact .inr (.inl hm)
  rw [hv]
  clear hv
  have c1 := fun w => isp_ok (p : Int) w (by omega) (by omega)
  have hpz : ¬ (p : Int) = 0 := by omega
  have h8 : wrap64 (8 * (p : Int)) = 8 * (p : Int) := wrap_in _ (by omega) (by omega)
  have hrT : Int.tmod (n : Int) (p : Int) = ((n % p : Nat) : Int) := by rw [Int.tmod_eq_emod_of_nonneg (by omega)]; exact (Int.natCast_emod _ _).symm
  have hrl : n % p < p := Nat.mod_lt _ (by omega)
  obtain ⟨r, hr⟩ : ∃ r, n % p = r := ⟨_, rfl⟩
  rw [hr] at hrT hrl
  have hrw : wrap64 (r : Int) = (r : Int) := wrap_in _ (by omega) (by omega)
  have g1 : ((n : Int) == 0) = false := by simpa using h3
  have g2 : decide (8 * (p : Int) < (n : Int)) = true := decide_eq_true (by omega)
  clear hr h3 h4
  have C1 := Lib.hid c1
  clear c1
  go_enter Try.func13, Try.ntmps13
  go_wp2_with fail
  refine (C1.out _).mono ?_
  rintro e w1 ⟨rfl, rfl⟩
  go_wp2
  go_ret
  exact ⟨rfl, HB0.out⟩
set_option maxHeartbeats 1000000 in
theorem valE_odd (p : Nat) (A : Option Addr) (n c : Nat) (w : World) (h1 : 512 ≤ p) (h2 : p ≤ 8192) (_ : n ≤ 9223372036854775807) (h3 : ¬ n = 0) (h4 : ¬ 8 * p < n) (h5 : ¬ n % p = 0) :
    Calls Try.prog 13 #[.agg #[.int .i64 (p : Int), .slice A n c]] w fun e w' => e = .returned (.int .i64 (valE (p : Int) n)) ∧ Below w.heap.size w w' := by
  have HB0 := Lib.hid ((Below.refl w.heap.size w).alloc (Nat.le_refl _) (.cells #[.int .i64 (p : Int), .slice A n c] 24))
  have hv : valE (p : Int) n = 4 := by
    unfold valE
    rw [if_neg (by omega), Int.toNat_natCast]
    exact if_pos (by exact .inr (.inl h5))
  rw [hv]
  clear hv
  have c1 := fun w => isp_ok (p : Int) w (by omega) (by omega)
  have hpz : ¬ (p : Int) = 0 := by omega
  have h8 : wrap64 (8 * (p : Int)) = 8 * (p : Int) := wrap_in _ (by omega) (by omega)
  have hrT : Int.tmod (n : Int) (p : Int) = ((n % p : Nat) : Int) := by rw [Int.tmod_eq_emod_of_nonneg (by omega)]; exact (Int.natCast_emod _ _).symm
  have hrl : n % p < p := Nat.mod_lt _ (by omega)
  obtain ⟨r, hr⟩ : ∃ r, n % p = r := ⟨_, rfl⟩
  rw [hr] at hrT hrl
  have hrw : wrap64 (r : Int) = (r : Int) := wrap_in _ (by omega) (by omega)
  have g1 : ((n : Int) == 0) = false := by simpa using h3
  have g2 : decide (8 * (p : Int) < (n : Int)) = false := decide_eq_false (by omega)
  have g3 : ¬ (r : Int) = 0 := by omega
  clear hr h3 h4 h5
  have C1 := Lib.hid c1
  clear c1
  go_enter Try.func13, Try.ntmps13
  go_wp2_with fail
  refine (C1.out _).mono ?_
  rintro e w1 ⟨rfl, rfl⟩
  go_wp2
  go_ret
  exact ⟨rfl, HB0.out⟩
set_option maxHeartbeats 1000000 in
theorem valE_fine (p : Nat) (A : Option Addr) (n c : Nat) (w : World) (h1 : 512 ≤ p) (h2 : p ≤ 8192) (_ : n ≤ 9223372036854775807) (h3 : ¬ n = 0) (h4 : ¬ 8 * p < n) (h5 : n % p = 0) :
    Calls Try.prog 13 #[.agg #[.int .i64 (p : Int), .slice A n c]] w fun e w' => e = .returned (.int .i64 (valE (p : Int) n)) ∧ Below w.heap.size w w' := by
  have HB0 := Lib.hid ((Below.refl w.heap.size w).alloc (Nat.le_refl _) (.cells #[.int .i64 (p : Int), .slice A n c] 24))
  have hv : valE (p : Int) n = 0 := by
    unfold valE
    rw [if_neg (by omega), Int.toNat_natCast]
    refine if_neg ?_
    have h10 : n / p < 9 := Nat.div_lt_of_lt_mul (by omega)
    omega
  rw [hv]
  clear hv
  have c1 := fun w => isp_ok (p : Int) w (by omega) (by omega)
  have hpz : ¬ (p : Int) = 0 := by omega
  have h8 : wrap64 (8 * (p : Int)) = 8 * (p : Int) := wrap_in _ (by omega) (by omega)
  have hrT : Int.tmod (n : Int) (p : Int) = ((n % p : Nat) : Int) := by rw [Int.tmod_eq_emod_of_nonneg (by omega)]; exact (Int.natCast_emod _ _).symm
  have hrl : n % p < p := Nat.mod_lt _ (by omega)
  obtain ⟨r, hr⟩ : ∃ r, n % p = r := ⟨_, rfl⟩
  rw [hr] at hrT hrl
  have hrw : wrap64 (r : Int) = (r : Int) := wrap_in _ (by omega) (by omega)
  have g1 : ((n : Int) == 0) = false := by simpa using h3
  have g2 : decide (8 * (p : Int) < (n : Int)) = false := decide_eq_false (by omega)
  have g3 : (r : Int) = 0 := by omega
  clear hr h3 h4 h5
  have C1 := Lib.hid c1
  clear c1
  go_enter Try.func13, Try.ntmps13
  go_wp2_with fail
  refine (C1.out _).mono ?_
  rintro e w1 ⟨rfl, rfl⟩
  go_wp2
  go_ret
  exact ⟨rfl, HB0.out⟩
theorem vldE_all (P : Int) (A : Option Addr) (n c : Nat) (w : World) (hn : n ≤ 9223372036854775807) :
    Calls Try.prog 13 #[.agg #[.int .i64 P, .slice A n c]] w fun e w' => e = .returned (.int .i64 (valE P n)) ∧ Below w.heap.size w w' := by
  by_cases h1 : P < 512
  · exact valE_lo P A n c w h1
  · by_cases h2 : 8192 < P
    · exact valE_hi P A n c w h2
    · obtain ⟨p, rfl⟩ := Int.eq_ofNat_of_zero_le (show 0 ≤ P by omega)
      by_cases h3 : n = 0
      · exact valE_none p A n c w (by omega) (by omega) hn h3
      · by_cases h4 : 8 * p < n
        · exact valE_many p A n c w (by omega) (by omega) hn h3 h4
        · by_cases h5 : n % p = 0
          · exact valE_fine p A n c w (by omega) (by omega) hn h3 h4 h5
          · exact valE_odd p A n c w (by omega) (by omega) hn h3 h4 h5
set_option maxHeartbeats 1000000 in
theorem find_bad (P : Int) (A : Option Addr) (n c : Nat) (pg a k : Int) (w : World) (hn : n ≤ 9223372036854775807) (h : ¬ valE P n = 0) :
    Calls Try.prog 24 #[.agg #[.int .i64 P, .slice A n c], .int .i64 pg, .int .i64 a, .int .i64 k] w fun e w' => e = .returned (.tuple #[.int .i64 (0), .int .i64 (areE P n pg a k)]) ∧ Below w.heap.size w w' := by
  have HB0 := Lib.hid ((Below.refl w.heap.size w).alloc (Nat.le_refl _) (.cells #[.int .i64 P, .slice A n c] 24))
  have hv : areE P n pg a k = valE P n := by unfold areE; rw [if_pos h]
  rw [hv]
  have c1 := fun w => vldE_all P A n c w hn
  generalize valE P n = E at *
  have C1 := Lib.hid c1
  clear c1 hv
  go_enter Try.func24, Try.ntmps24
  go_wp2_with fail
  refine (C1.out _).mono ?_
  rintro e w1 ⟨rfl, hb⟩
  have HB1 := Lib.hid (HB0.out.trans (hb.mono HB0.out.size))
  clear hb
  go_wp2
  refine bodyPost_ret (v := .tuple #[.int .i64 0, .int .i64 E]) (by simp [results, Try.results24, go_sem, *]) rfl ?_
  exact ⟨rfl, HB1.out⟩
set_option maxHeartbeats 1000000 in
theorem find_pg (p : Nat) (A : Option Addr) (n c : Nat) (pg a k : Int) (w : World) (h1 : 512 ≤ p) (h2 : p ≤ 8192) (hn : n ≤ 65536) (hv0 : valE (p : Int) n = 0) (_ : a ≤ 9223372036854775807) (e0 : pg < 0) :
    Calls Try.prog 24 #[.agg #[.int .i64 (p : Int), .slice A n c], .int .i64 pg, .int .i64 a, .int .i64 k] w fun e w' => e = .returned (.tuple #[.int .i64 (0), .int .i64 (areE (p : Int) n pg a k)]) ∧ Below w.heap.size w w' := by
  have HB0 := Lib.hid ((Below.refl w.heap.size w).alloc (Nat.le_refl _) (.cells #[.int .i64 (p : Int), .slice A n c] 24))
  have hv : areE (p : Int) n pg a k = 9 := by
    unfold areE
    rw [if_neg (by omega), Int.toNat_natCast]
    exact if_pos (by omega)
  rw [hv]
  have c1 := fun w => vldE_all (p : Int) A n c w (by omega)
  rw [hv0] at c1
  have C1 := Lib.hid c1
  have hpz : ¬ (p : Int) = 0 := by omega
  obtain ⟨q, hq⟩ : ∃ q, n / p = q := ⟨_, rfl⟩
  have hqI : (n : Int) / (p : Int) = (q : Int) := by rw [← hq]; exact (Int.natCast_ediv _ _).symm
  have hqT : Int.tdiv (n : Int) (p : Int) = (q : Int) := by rw [Int.tdiv_eq_ediv_of_nonneg (by omega)]; exact hqI
  have hql : q ≤ n := by rw [← hq]; exact Nat.div_le_self n p
  have f0 : pg < 0 := by omega
  have hqw : wrap64 (q : Int) = (q : Int) := wrap_in _ (by omega) (by omega)
  clear c1 hv hv0 hq hql e0
  go_enter Try.func24, Try.ntmps24
  go_wp2_with fail
  refine (C1.out _).mono ?_
  rintro e w1 ⟨rfl, hb⟩
  have HB1 := Lib.hid (HB0.out.trans (hb.mono HB0.out.size))
  have k0 := hb.cell (p := ⟨w.heap.size, 0, none⟩) (by simp)
  have k1 := hb.cell (p := ⟨w.heap.size, 1, none⟩) (by simp)
  clear hb
  go_wp2
  refine bodyPost_ret (v := .tuple #[.int .i64 (0), .int .i64 9]) (by simp [results, Try.results24, go_sem, *]) rfl ?_
  exact ⟨rfl, HB1.out⟩
set_option maxHeartbeats 1000000 in
theorem find_past (p : Nat) (A : Option Addr) (n c : Nat) (pg a k : Int) (w : World) (h1 : 512 ≤ p) (h2 : p ≤ 8192) (hn : n ≤ 65536) (hv0 : valE (p : Int) n = 0) (_ : a ≤ 9223372036854775807) (e0 : ¬ pg < 0) (e1 : ((n / p : Nat) : Int) ≤ pg) :
    Calls Try.prog 24 #[.agg #[.int .i64 (p : Int), .slice A n c], .int .i64 pg, .int .i64 a, .int .i64 k] w fun e w' => e = .returned (.tuple #[.int .i64 (0), .int .i64 (areE (p : Int) n pg a k)]) ∧ Below w.heap.size w w' := by
  have HB0 := Lib.hid ((Below.refl w.heap.size w).alloc (Nat.le_refl _) (.cells #[.int .i64 (p : Int), .slice A n c] 24))
  have hv : areE (p : Int) n pg a k = 9 := by
    unfold areE
    rw [if_neg (by omega), Int.toNat_natCast]
    exact if_pos (by omega)
  rw [hv]
  have c1 := fun w => vldE_all (p : Int) A n c w (by omega)
  rw [hv0] at c1
  have C1 := Lib.hid c1
  have hpz : ¬ (p : Int) = 0 := by omega
  obtain ⟨q, hq⟩ : ∃ q, n / p = q := ⟨_, rfl⟩
  have hqI : (n : Int) / (p : Int) = (q : Int) := by rw [← hq]; exact (Int.natCast_ediv _ _).symm
  have hqT : Int.tdiv (n : Int) (p : Int) = (q : Int) := by rw [Int.tdiv_eq_ediv_of_nonneg (by omega)]; exact hqI
  have hql : q ≤ n := by rw [← hq]; exact Nat.div_le_self n p
  have f0 : ¬ pg < 0 := by omega
  have f1 : (q : Int) ≤ pg := by omega
  have hqw : wrap64 (q : Int) = (q : Int) := wrap_in _ (by omega) (by omega)
  clear c1 hv hv0 hq hql e0 e1
  go_enter Try.func24, Try.ntmps24
  go_wp2_with fail
  refine (C1.out _).mono ?_
  rintro e w1 ⟨rfl, hb⟩
  have HB1 := Lib.hid (HB0.out.trans (hb.mono HB0.out.size))
  have k0 := hb.cell (p := ⟨w.heap.size, 0, none⟩) (by simp)
  have k1 := hb.cell (p := ⟨w.heap.size, 1, none⟩) (by simp)
  clear hb
  go_wp2
  refine bodyPost_ret (v := .tuple #[.int .i64 (0), .int .i64 9]) (by simp [results, Try.results24, go_sem, *]) rfl ?_
  exact ⟨rfl, HB1.out⟩
set_option maxHeartbeats 1000000 in
theorem find_at (p : Nat) (A : Option Addr) (n c : Nat) (pg a k : Int) (w : World) (h1 : 512 ≤ p) (h2 : p ≤ 8192) (hn : n ≤ 65536) (hv0 : valE (p : Int) n = 0) (_ : a ≤ 9223372036854775807) (e0 : ¬ pg < 0) (e1 : ¬ ((n / p : Nat) : Int) ≤ pg) (e2 : a < 0) :
    Calls Try.prog 24 #[.agg #[.int .i64 (p : Int), .slice A n c], .int .i64 pg, .int .i64 a, .int .i64 k] w fun e w' => e = .returned (.tuple #[.int .i64 (0), .int .i64 (areE (p : Int) n pg a k)]) ∧ Below w.heap.size w w' := by
  have HB0 := Lib.hid ((Below.refl w.heap.size w).alloc (Nat.le_refl _) (.cells #[.int .i64 (p : Int), .slice A n c] 24))
  have hv : areE (p : Int) n pg a k = 9 := by
    unfold areE
    rw [if_neg (by omega), Int.toNat_natCast]
    exact if_pos (by omega)
  rw [hv]
  have c1 := fun w => vldE_all (p : Int) A n c w (by omega)
  rw [hv0] at c1
  have C1 := Lib.hid c1
  have hpz : ¬ (p : Int) = 0 := by omega
  obtain ⟨q, hq⟩ : ∃ q, n / p = q := ⟨_, rfl⟩
  have hqI : (n : Int) / (p : Int) = (q : Int) := by rw [← hq]; exact (Int.natCast_ediv _ _).symm
  have hqT : Int.tdiv (n : Int) (p : Int) = (q : Int) := by rw [Int.tdiv_eq_ediv_of_nonneg (by omega)]; exact hqI
  have hql : q ≤ n := by rw [← hq]; exact Nat.div_le_self n p
  have f0 : ¬ pg < 0 := by omega
  have f1 : ¬ (q : Int) ≤ pg := by omega
  have f2 : a < 0 := by omega
  have hqw : wrap64 (q : Int) = (q : Int) := wrap_in _ (by omega) (by omega)
  clear c1 hv hv0 hq hql e0 e1 e2
  go_enter Try.func24, Try.ntmps24
  go_wp2_with fail
  refine (C1.out _).mono ?_
  rintro e w1 ⟨rfl, hb⟩
  have HB1 := Lib.hid (HB0.out.trans (hb.mono HB0.out.size))
  have k0 := hb.cell (p := ⟨w.heap.size, 0, none⟩) (by simp)
  have k1 := hb.cell (p := ⟨w.heap.size, 1, none⟩) (by simp)
  clear hb
  go_wp2
  refine bodyPost_ret (v := .tuple #[.int .i64 (0), .int .i64 9]) (by simp [results, Try.results24, go_sem, *]) rfl ?_
  exact ⟨rfl, HB1.out⟩
set_option maxHeartbeats 1000000 in
theorem find_neg (p : Nat) (A : Option Addr) (n c : Nat) (pg a k : Int) (w : World) (h1 : 512 ≤ p) (h2 : p ≤ 8192) (hn : n ≤ 65536) (hv0 : valE (p : Int) n = 0) (_ : a ≤ 9223372036854775807) (e0 : ¬ pg < 0) (e1 : ¬ ((n / p : Nat) : Int) ≤ pg) (e2 : ¬ a < 0) (e3 : k < 0) :
    Calls Try.prog 24 #[.agg #[.int .i64 (p : Int), .slice A n c], .int .i64 pg, .int .i64 a, .int .i64 k] w fun e w' => e = .returned (.tuple #[.int .i64 (0), .int .i64 (areE (p : Int) n pg a k)]) ∧ Below w.heap.size w w' := by
  have HB0 := Lib.hid ((Below.refl w.heap.size w).alloc (Nat.le_refl _) (.cells #[.int .i64 (p : Int), .slice A n c] 24))
  have hv : areE (p : Int) n pg a k = 9 := by
    unfold areE
    rw [if_neg (by omega), Int.toNat_natCast]
    exact if_pos (by omega)
  rw [hv]
  have c1 := fun w => vldE_all (p : Int) A n c w (by omega)
  rw [hv0] at c1
  have C1 := Lib.hid c1
  have hpz : ¬ (p : Int) = 0 := by omega
  obtain ⟨q, hq⟩ : ∃ q, n / p = q := ⟨_, rfl⟩
  have hqI : (n : Int) / (p : Int) = (q : Int) := by rw [← hq]; exact (Int.natCast_ediv _ _).symm
  have hqT : Int.tdiv (n : Int) (p : Int) = (q : Int) := by rw [Int.tdiv_eq_ediv_of_nonneg (by omega)]; exact hqI
  have hql : q ≤ n := by rw [← hq]; exact Nat.div_le_self n p
  have f0 : ¬ pg < 0 := by omega
  have f1 : ¬ (q : Int) ≤ pg := by omega
  have f2 : ¬ a < 0 := by omega
  have f3 : k < 0 := by omega
  have hqw : wrap64 (q : Int) = (q : Int) := wrap_in _ (by omega) (by omega)
  clear c1 hv hv0 hq hql e0 e1 e2 e3
  go_enter Try.func24, Try.ntmps24
  go_wp2_with fail
  refine (C1.out _).mono ?_
  rintro e w1 ⟨rfl, hb⟩
  have HB1 := Lib.hid (HB0.out.trans (hb.mono HB0.out.size))
  have k0 := hb.cell (p := ⟨w.heap.size, 0, none⟩) (by simp)
  have k1 := hb.cell (p := ⟨w.heap.size, 1, none⟩) (by simp)
  clear hb
  go_wp2
  refine bodyPost_ret (v := .tuple #[.int .i64 (0), .int .i64 9]) (by simp [results, Try.results24, go_sem, *]) rfl ?_
  exact ⟨rfl, HB1.out⟩
set_option maxHeartbeats 1000000 in
theorem find_len (p : Nat) (A : Option Addr) (n c : Nat) (pg a k : Int) (w : World) (h1 : 512 ≤ p) (h2 : p ≤ 8192) (hn : n ≤ 65536) (hv0 : valE (p : Int) n = 0) (ha : a ≤ 9223372036854775807) (e0 : ¬ pg < 0) (e1 : ¬ ((n / p : Nat) : Int) ≤ pg) (e2 : ¬ a < 0) (e3 : ¬ k < 0) (e4 : (p : Int) - a < k) :
    Calls Try.prog 24 #[.agg #[.int .i64 (p : Int), .slice A n c], .int .i64 pg, .int .i64 a, .int .i64 k] w fun e w' => e = .returned (.tuple #[.int .i64 (0), .int .i64 (areE (p : Int) n pg a k)]) ∧ Below w.heap.size w w' := by
  have HB0 := Lib.hid ((Below.refl w.heap.size w).alloc (Nat.le_refl _) (.cells #[.int .i64 (p : Int), .slice A n c] 24))
  have hv : areE (p : Int) n pg a k = 9 := by
    unfold areE
    rw [if_neg (by omega), Int.toNat_natCast]
    exact if_pos (by omega)
  rw [hv]
  have c1 := fun w => vldE_all (p : Int) A n c w (by omega)
  rw [hv0] at c1
  have C1 := Lib.hid c1
  have hpz : ¬ (p : Int) = 0 := by omega
  obtain ⟨q, hq⟩ : ∃ q, n / p = q := ⟨_, rfl⟩
  have hqI : (n : Int) / (p : Int) = (q : Int) := by rw [← hq]; exact (Int.natCast_ediv _ _).symm
  have hqT : Int.tdiv (n : Int) (p : Int) = (q : Int) := by rw [Int.tdiv_eq_ediv_of_nonneg (by omega)]; exact hqI
  have hql : q ≤ n := by rw [← hq]; exact Nat.div_le_self n p
  have f0 : ¬ pg < 0 := by omega
  have f1 : ¬ (q : Int) ≤ pg := by omega
  have f2 : ¬ a < 0 := by omega
  have f3 : ¬ k < 0 := by omega
  have f4 : (p : Int) - a < k := by omega
  have hqw : wrap64 (q : Int) = (q : Int) := wrap_in _ (by omega) (by omega)
  have hsw : wrap64 ((p : Int) - a) = (p : Int) - a := wrap_in _ (by omega) (by omega)
  clear ha c1 hv hv0 hq hql e0 e1 e2 e3 e4
  go_enter Try.func24, Try.ntmps24
  go_wp2_with fail
  refine (C1.out _).mono ?_
  rintro e w1 ⟨rfl, hb⟩
  have HB1 := Lib.hid (HB0.out.trans (hb.mono HB0.out.size))
  have k0 := hb.cell (p := ⟨w.heap.size, 0, none⟩) (by simp)
  have k1 := hb.cell (p := ⟨w.heap.size, 1, none⟩) (by simp)
  clear hb
  go_wp2
  refine bodyPost_ret (v := .tuple #[.int .i64 (0), .int .i64 9]) (by simp [results, Try.results24, go_sem, *]) rfl ?_
  exact ⟨rfl, HB1.out⟩
set_option maxHeartbeats 1000000 in
theorem find_ok (p q b m t d n c : Nat) (A : Option Addr) (w : World) (h1 : 512 ≤ p) (h2 : p ≤ 8192) (hn : n ≤ 65536) (hv0 : valE (p : Int) n = 0) (hd : n / p = d) (hq : q < d) (ht : q * p = t) (htl : t ≤ 65536) (hbm : b + m ≤ p) :
    Calls Try.prog 24 #[.agg #[.int .i64 (p : Int), .slice A n c], .int .i64 (q : Int), .int .i64 (b : Int), .int .i64 (m : Int)] w fun e w' => e = .returned (.tuple #[.int .i64 ((t : Int) + (b : Int)), .int .i64 0]) ∧ Below w.heap.size w w' := by
  have HB0 := Lib.hid ((Below.refl w.heap.size w).alloc (Nat.le_refl _) (.cells #[.int .i64 (p : Int), .slice A n c] 24))
  have c1 := fun w => vldE_all (p : Int) A n c w (by omega)
  rw [hv0] at c1
  have C1 := Lib.hid c1
  have hpz : ¬ (p : Int) = 0 := by omega
  have hqI : (n : Int) / (p : Int) = (d : Int) := by rw [← hd]; exact (Int.natCast_ediv _ _).symm
  have hqT : Int.tdiv (n : Int) (p : Int) = (d : Int) := by rw [Int.tdiv_eq_ediv_of_nonneg (by omega)]; exact hqI
  have hdl : d ≤ n := by rw [← hd]; exact Nat.div_le_self n p
  have htI : (q : Int) * (p : Int) = (t : Int) := by rw [← ht]; exact (Int.natCast_mul _ _).symm
  have f0 : ¬ (q : Int) < 0 := by clear htI hqI hqT; omega
  have f1 : ¬ (d : Int) ≤ (q : Int) := by clear htI hqI hqT; omega
  have f2 : ¬ (b : Int) < 0 := by clear htI hqI hqT; omega
  have f3 : ¬ (m : Int) < 0 := by clear htI hqI hqT; omega
  have f4 : ¬ (p : Int) - (b : Int) < (m : Int) := by clear htI hqI hqT; omega
  have hqw : wrap64 (d : Int) = (d : Int) := wrap_in _ (by clear htI hqI hqT; omega) (by clear htI hqI hqT; omega)
  have htw : wrap64 (t : Int) = (t : Int) := wrap_in _ (by clear htI hqI hqT hqw; omega) (by clear htI hqI hqT hqw; omega)
  have htb : wrap64 ((t : Int) + (b : Int)) = (t : Int) + (b : Int) := wrap_in _ (by clear htI hqI hqT hqw htw; omega) (by clear htI hqI hqT hqw htw; omega)
  clear c1 hv0 hd hq ht htl hbm hdl
  go_enter Try.func24, Try.ntmps24
  go_wp2_with fail
  refine (C1.out _).mono ?_
  rintro e w1 ⟨rfl, hb⟩
  have HB1 := Lib.hid (HB0.out.trans (hb.mono HB0.out.size))
  have k0 := hb.cell (p := ⟨w.heap.size, 0, none⟩) (by simp)
  have k1 := hb.cell (p := ⟨w.heap.size, 1, none⟩) (by simp)
  clear hb
  go_wp2
  refine bodyPost_ret (v := .tuple #[.int .i64 ((t : Int) + (b : Int)), .int .i64 0]) (by simp [results, Try.results24, go_sem, *]) rfl ?_
  exact ⟨rfl, HB1.out⟩
/-- find, for any arguments -/
theorem find_any (P : Int) (A : Option Addr) (n c : Nat) (pg a k : Int) (w : World) (hn : n ≤ 9223372036854775807) (ha : a ≤ 9223372036854775807) :
    Calls Try.prog 24 #[.agg #[.int .i64 P, .slice A n c], .int .i64 pg, .int .i64 a, .int .i64 k] w fun e w' => e = .returned (.tuple #[.int .i64 (if areE P n pg a k = 0 then ((fromE P pg a : Nat) : Int) else 0), .int .i64 (areE P n pg a k)]) ∧ Below w.heap.size w w' := by
  by_cases h : valE P n = 0
  · have hb := valE_big h
    obtain ⟨p, rfl, h1, h2, _, _, _⟩ := valE_ok h
    by_cases e : areE (p : Int) n pg a k = 0
    · rw [if_pos e]
      have e' := e
      unfold areE at e
      rw [if_neg (by omega), Int.toNat_natCast] at e
      by_cases e1 : pg < 0 ∨ ((n / p : Nat) : Int) ≤ pg ∨ a < 0 ∨ k < 0 ∨ (p : Int) < a ∨ (p : Int) - a < k
      · rw [if_pos e1] at e
        omega
      · obtain ⟨p', q, b, m, e2, rfl, rfl, rfl, _, _, _, _, h6, h7, _⟩ := areE_ok e'
        obtain rfl : p = p' := by omega
        rw [fromE_nat, e']
        have h8 := find_ok p q b m (q * p) (n / p) n c A w h1 h2 hb h rfl (by omega) rfl (by omega) h6
        rw [show ((q * p + b : Nat) : Int) = ((q * p : Nat) : Int) + (b : Int) from Int.natCast_add _ _]
        exact h8
    · rw [if_neg e]
      unfold areE at e
      rw [if_neg (by omega), Int.toNat_natCast] at e
      by_cases e1 : pg < 0 ∨ ((n / p : Nat) : Int) ≤ pg ∨ a < 0 ∨ k < 0 ∨ (p : Int) < a ∨ (p : Int) - a < k
      · by_cases g0 : pg < 0
        · exact find_pg p A n c pg a k w h1 h2 hb h ha g0
        · by_cases g1 : ((n / p : Nat) : Int) ≤ pg
          · exact find_past p A n c pg a k w h1 h2 hb h ha g0 g1
          · by_cases g2 : a < 0
            · exact find_at p A n c pg a k w h1 h2 hb h ha g0 g1 g2
            · by_cases g3 : k < 0
              · exact find_neg p A n c pg a k w h1 h2 hb h ha g0 g1 g2 g3
              · exact find_len p A n c pg a k w h1 h2 hb h ha g0 g1 g2 g3 (by omega)
      · rw [if_neg e1] at e
        omega
  · have e : ¬ areE P n pg a k = 0 := by unfold areE; rw [if_pos h]; exact h
    rw [if_neg e]
    exact find_bad P A n c pg a k w hn h
set_option maxHeartbeats 1000000 in
theorem spend_neg (b : Int) (k : Nat) (w : World) (_ : k ≤ 65536) (_ : b ≤ 9223372036854775807) (h : b < 0) :
    Calls Try.prog 36 #[.int .i64 (k : Int), .int .i64 b] w fun e w' => e = .returned (.tuple #[.int .i64 (k : Int), .int .i64 (b), .int .i64 0]) ∧ w = w' := by
  go_enter Try.func36, Try.ntmps36
  go_wp2
  refine bodyPost_ret (v := .tuple #[.int .i64 (k : Int), .int .i64 (b), .int .i64 0]) (by simp [results, Try.results36, go_sem, *]) rfl ?_
  exact ⟨rfl, rfl⟩
set_option maxHeartbeats 1000000 in
theorem spend_short (b : Int) (k : Nat) (w : World) (_ : k ≤ 65536) (_ : b ≤ 9223372036854775807) (h : ¬ b < 0) (h2 : b < (k : Int)) :
    Calls Try.prog 36 #[.int .i64 (k : Int), .int .i64 b] w fun e w' => e = .returned (.tuple #[.int .i64 b, .int .i64 (0), .int .i64 16]) ∧ w = w' := by
  go_enter Try.func36, Try.ntmps36
  go_wp2
  refine bodyPost_ret (v := .tuple #[.int .i64 b, .int .i64 (0), .int .i64 16]) (by simp [results, Try.results36, go_sem, *]) rfl ?_
  exact ⟨rfl, rfl⟩
set_option maxHeartbeats 1000000 in
theorem spend_full (b : Int) (k : Nat) (w : World) (hk : k ≤ 65536) (hb : b ≤ 9223372036854775807) (h : ¬ b < 0) (h2 : ¬ b < (k : Int)) :
    Calls Try.prog 36 #[.int .i64 (k : Int), .int .i64 b] w fun e w' => e = .returned (.tuple #[.int .i64 (k : Int), .int .i64 (b - (k : Int)), .int .i64 0]) ∧ w = w' := by
  have hw : wrap64 (b - (k : Int)) = b - (k : Int) := by unfold wrap64; omega
  go_enter Try.func36, Try.ntmps36
  go_wp2
  refine bodyPost_ret (v := .tuple #[.int .i64 (k : Int), .int .i64 (b - (k : Int)), .int .i64 0]) (by simp [results, Try.results36, go_sem, *]) rfl ?_
  exact ⟨rfl, rfl⟩
theorem spend_any (b : Int) (k : Nat) (w : World) (hk : k ≤ 65536) (hb : b ≤ 9223372036854775807) :
    Calls Try.prog 36 #[.int .i64 (k : Int), .int .i64 b] w fun e w' => e = .returned (.tuple #[.int .i64 ((doneN b k : Nat) : Int), .int .i64 (leftB b k), .int .i64 (powE6 b k)]) ∧ w = w' := by
  by_cases h : b < 0
  · have e1 : doneN b k = k := by unfold doneN; rw [if_pos (by omega)]
    have e2 : leftB b k = b := by unfold leftB; rw [if_pos h]
    have e3 : powE6 b k = 0 := by unfold powE6; rw [if_pos (by omega)]
    rw [e1, e2, e3]
    exact spend_neg b k w hk hb h
  · by_cases h2 : b < (k : Int)
    · have e1 : ((doneN b k : Nat) : Int) = b := by unfold doneN; rw [if_neg (by omega)]; omega
      have e2 : leftB b k = 0 := by unfold leftB; rw [if_neg h, if_neg (by omega)]
      have e3 : powE6 b k = 16 := by unfold powE6; rw [if_neg (by omega)]
      rw [e1, e2, e3]
      exact spend_short b k w hk hb h h2
    · have e1 : doneN b k = k := by unfold doneN; rw [if_pos (by omega)]
      have e2 : leftB b k = b - k := by unfold leftB; rw [if_neg h, if_pos (by omega)]
      have e3 : powE6 b k = 0 := by unfold powE6; rw [if_pos (by omega)]
      rw [e1, e2, e3]
      exact spend_full b k w hk hb h h2
end Go.Proofs.Ytgoajnljgbcmdaa
