/- SameFlash, ValidateFlash and area of the reference. -/
import Derived.Test.YtgoajnljgbcmdaaFlA
namespace Go.Proofs.Ytgoajnljgbcmdaa
open Go.RowKit
set_option maxRecDepth 100000

set_option maxHeartbeats 1000000 in
theorem same_any (P : Int) (A B : Option Addr) (n c m d : Nat) (l : List Int) (w : World) (hA : Bytes w A n l) (hB : Bytes w B m l) :
    Calls Try.prog 12 #[.agg #[.int .i64 P, .slice A n c], .agg #[.int .i64 P, .slice B m d]] w fun e w' => e = .returned (.bool true) ∧ Below w.heap.size w w' := by
  have hb0 := ((Below.refl w.heap.size w).alloc (Nat.le_refl _) (.cells #[.int .i64 P, .slice A n c] 24)).alloc (by simp) (.cells #[.int .i64 P, .slice B m d] 24)
  have hcv1 := conv_bytes (cap := c) (hA.below hb0)
  have hcv2 := conv_bytes (cap := d) (hB.below hb0)
  have HB0 := Lib.hid hb0
  clear hb0 hA hB
  generalize strOfNums l = sl at *
  go_enter Try.func12, Try.ntmps12
  go_wp2
  go_ret
  exact ⟨rfl, HB0.out⟩
set_option maxHeartbeats 1000000 in
theorem valR_lo (P : Int) (A : Option Addr) (n c : Nat) (w : World) (h1 : P < 512) :
    Calls Try.prog 14 #[.agg #[.int .i64 P, .slice A n c]] w fun e w' => e = .returned (.int .i64 (valE P n)) ∧ Below w.heap.size w w' := by
  have HB0 := Lib.hid ((Below.refl w.heap.size w).alloc (Nat.le_refl _) (.cells #[.int .i64 P, .slice A n c] 24))
  have hv : valE P n = 9 := by unfold valE; rw [if_pos (by omega)]
  rw [hv]
  clear hv
  go_enter Try.func14, Try.ntmps14
  go_wp2
  go_ret
  exact ⟨rfl, HB0.out⟩
set_option maxHeartbeats 1000000 in
theorem valR_hi (P : Int) (A : Option Addr) (n c : Nat) (w : World) (h1 : ¬ P < 512) (h2 : 8192 < P) :
    Calls Try.prog 14 #[.agg #[.int .i64 P, .slice A n c]] w fun e w' => e = .returned (.int .i64 (valE P n)) ∧ Below w.heap.size w w' := by
  have HB0 := Lib.hid ((Below.refl w.heap.size w).alloc (Nat.le_refl _) (.cells #[.int .i64 P, .slice A n c] 24))
  have hv : valE P n = 9 := by unfold valE; rw [if_pos (by omega)]
  rw [hv]
  clear hv
  go_enter Try.func14, Try.ntmps14
  go_wp2
  go_ret
  exact ⟨rfl, HB0.out⟩
set_option maxHeartbeats 1000000 in
theorem valR_none (p : Nat) (A : Option Addr) (n c : Nat) (w : World) (h1 : 512 ≤ p) (h2 : p ≤ 8192) (_ : n ≤ 9223372036854775807) (h3 : n = 0) :
    Calls Try.prog 14 #[.agg #[.int .i64 (p : Int), .slice A n c]] w fun e w' => e = .returned (.int .i64 (valE (p : Int) n)) ∧ Below w.heap.size w w' := by
  have HB0 := Lib.hid ((Below.refl w.heap.size w).alloc (Nat.le_refl _) (.cells #[.int .i64 (p : Int), .slice A n c] 24))
  have hv : valE (p : Int) n = 4 := by
    unfold valE
    rw [if_neg (by omega), Int.toNat_natCast]
    exact if_pos (by omega)
  rw [hv]
  clear hv
  have hp0 : ¬ (p : Int) < 512 := by omega
  have hp1 : ¬ (8192 : Int) < (p : Int) := by omega
  have hpz : ¬ (p : Int) = 0 := by omega
  obtain ⟨r, hr⟩ : ∃ r, n % p = r := ⟨_, rfl⟩
  obtain ⟨k, hk⟩ : ∃ k, n / p = k := ⟨_, rfl⟩
  have hrI : (n : Int) % (p : Int) = (r : Int) := by rw [← hr]; exact (Int.natCast_emod _ _).symm
  have hrT : Int.tmod (n : Int) (p : Int) = (r : Int) := by rw [Int.tmod_eq_emod_of_nonneg (by omega)]; exact hrI
  have hkI : (n : Int) / (p : Int) = (k : Int) := by rw [← hk]; exact (Int.natCast_ediv _ _).symm
  have hkT : Int.tdiv (n : Int) (p : Int) = (k : Int) := by rw [Int.tdiv_eq_ediv_of_nonneg (by omega)]; exact hkI
  have hkw : wrap64 (k : Int) = (k : Int) := by
    have := Nat.div_le_self n p
    unfold wrap64
    omega
  have g1 : (n : Int) = 0 := by omega
  clear hr hk h3
  go_enter Try.func14, Try.ntmps14
  go_wp2
  go_ret
  exact ⟨rfl, HB0.out⟩
set_option maxHeartbeats 1000000 in
theorem valR_odd (p : Nat) (A : Option Addr) (n c : Nat) (w : World) (h1 : 512 ≤ p) (h2 : p ≤ 8192) (hn : n ≤ 9223372036854775807) (h3 : ¬ n = 0) (h4 : ¬ n % p = 0) :
    Calls Try.prog 14 #[.agg #[.int .i64 (p : Int), .slice A n c]] w fun e w' => e = .returned (.int .i64 (valE (p : Int) n)) ∧ Below w.heap.size w w' := by
  have HB0 := Lib.hid ((Below.refl w.heap.size w).alloc (Nat.le_refl _) (.cells #[.int .i64 (p : Int), .slice A n c] 24))
  have hv : valE (p : Int) n = 4 := by
    unfold valE
    rw [if_neg (by omega), Int.toNat_natCast]
    exact if_pos (by omega)
  rw [hv]
  clear hv
  have hp0 : ¬ (p : Int) < 512 := by omega
  have hp1 : ¬ (8192 : Int) < (p : Int) := by omega
  have hpz : ¬ (p : Int) = 0 := by omega
  obtain ⟨r, hr⟩ : ∃ r, n % p = r := ⟨_, rfl⟩
  obtain ⟨k, hk⟩ : ∃ k, n / p = k := ⟨_, rfl⟩
  have hrI : (n : Int) % (p : Int) = (r : Int) := by rw [← hr]; exact (Int.natCast_emod _ _).symm
  have hrT : Int.tmod (n : Int) (p : Int) = (r : Int) := by rw [Int.tmod_eq_emod_of_nonneg (by omega)]; exact hrI
  have hkI : (n : Int) / (p : Int) = (k : Int) := by rw [← hk]; exact (Int.natCast_ediv _ _).symm
  have hkT : Int.tdiv (n : Int) (p : Int) = (k : Int) := by rw [Int.tdiv_eq_ediv_of_nonneg (by omega)]; exact hkI
  have hkw : wrap64 (k : Int) = (k : Int) := by
    have := Nat.div_le_self n p
    unfold wrap64
    omega
  have g1 : ¬ (n : Int) = 0 := by omega
  have g2 : ¬ (r : Int) = 0 := by omega
  clear hr hk h3
  go_enter Try.func14, Try.ntmps14
  go_wp2
  go_ret
  exact ⟨rfl, HB0.out⟩
set_option maxHeartbeats 1000000 in
theorem valR_many (p : Nat) (A : Option Addr) (n c : Nat) (w : World) (h1 : 512 ≤ p) (h2 : p ≤ 8192) (hn : n ≤ 9223372036854775807) (h3 : ¬ n = 0) (h4 : n % p = 0) (h5 : 8 < n / p) :
    Calls Try.prog 14 #[.agg #[.int .i64 (p : Int), .slice A n c]] w fun e w' => e = .returned (.int .i64 (valE (p : Int) n)) ∧ Below w.heap.size w w' := by
  have HB0 := Lib.hid ((Below.refl w.heap.size w).alloc (Nat.le_refl _) (.cells #[.int .i64 (p : Int), .slice A n c] 24))
  have hv : valE (p : Int) n = 4 := by
    unfold valE
    rw [if_neg (by omega), Int.toNat_natCast]
    exact if_pos (by omega)
  rw [hv]
  clear hv
  have hp0 : ¬ (p : Int) < 512 := by omega
  have hp1 : ¬ (8192 : Int) < (p : Int) := by omega
  have hpz : ¬ (p : Int) = 0 := by omega
  obtain ⟨r, hr⟩ : ∃ r, n % p = r := ⟨_, rfl⟩
  obtain ⟨k, hk⟩ : ∃ k, n / p = k := ⟨_, rfl⟩
  have hrI : (n : Int) % (p : Int) = (r : Int) := by rw [← hr]; exact (Int.natCast_emod _ _).symm
  have hrT : Int.tmod (n : Int) (p : Int) = (r : Int) := by rw [Int.tmod_eq_emod_of_nonneg (by omega)]; exact hrI
  have hkI : (n : Int) / (p : Int) = (k : Int) := by rw [← hk]; exact (Int.natCast_ediv _ _).symm
  have hkT : Int.tdiv (n : Int) (p : Int) = (k : Int) := by rw [Int.tdiv_eq_ediv_of_nonneg (by omega)]; exact hkI
  have hkw : wrap64 (k : Int) = (k : Int) := by
    have := Nat.div_le_self n p
    unfold wrap64
    omega
  have g1 : ¬ (n : Int) = 0 := by omega
  have g2 : (r : Int) = 0 := by omega
  have g3 : (8 : Int) < (k : Int) := by omega
  clear hr hk h3
  go_enter Try.func14, Try.ntmps14
  go_wp2
  go_ret
  exact ⟨rfl, HB0.out⟩
set_option maxHeartbeats 1000000 in
theorem valR_ok (p : Nat) (A : Option Addr) (n c : Nat) (w : World) (h1 : 512 ≤ p) (h2 : p ≤ 8192) (hn : n ≤ 9223372036854775807) (h3 : ¬ n = 0) (h4 : n % p = 0) (h5 : ¬ 8 < n / p) :
    Calls Try.prog 14 #[.agg #[.int .i64 (p : Int), .slice A n c]] w fun e w' => e = .returned (.int .i64 (valE (p : Int) n)) ∧ Below w.heap.size w w' := by
  have HB0 := Lib.hid ((Below.refl w.heap.size w).alloc (Nat.le_refl _) (.cells #[.int .i64 (p : Int), .slice A n c] 24))
  have hv : valE (p : Int) n = 0 := by
    unfold valE
    rw [if_neg (by omega), Int.toNat_natCast]
    exact if_neg (by omega)
  rw [hv]
  clear hv
  have hp0 : ¬ (p : Int) < 512 := by omega
  have hp1 : ¬ (8192 : Int) < (p : Int) := by omega
  have hpz : ¬ (p : Int) = 0 := by omega
  obtain ⟨r, hr⟩ : ∃ r, n % p = r := ⟨_, rfl⟩
  obtain ⟨k, hk⟩ : ∃ k, n / p = k := ⟨_, rfl⟩
  have hrI : (n : Int) % (p : Int) = (r : Int) := by rw [← hr]; exact (Int.natCast_emod _ _).symm
  have hrT : Int.tmod (n : Int) (p : Int) = (r : Int) := by rw [Int.tmod_eq_emod_of_nonneg (by omega)]; exact hrI
  have hkI : (n : Int) / (p : Int) = (k : Int) := by rw [← hk]; exact (Int.natCast_ediv _ _).symm
  have hkT : Int.tdiv (n : Int) (p : Int) = (k : Int) := by rw [Int.tdiv_eq_ediv_of_nonneg (by omega)]; exact hkI
  have hkw : wrap64 (k : Int) = (k : Int) := by
    have := Nat.div_le_self n p
    unfold wrap64
    omega
  have g1 : ¬ (n : Int) = 0 := by omega
  have g2 : (r : Int) = 0 := by omega
  have g3 : ¬ (8 : Int) < (k : Int) := by omega
  clear hr hk h3
  go_enter Try.func14, Try.ntmps14
  go_wp2
  go_ret
  exact ⟨rfl, HB0.out⟩
theorem valR_any (P : Int) (A : Option Addr) (n c : Nat) (w : World) (hn : n ≤ 9223372036854775807) :
    Calls Try.prog 14 #[.agg #[.int .i64 P, .slice A n c]] w fun e w' => e = .returned (.int .i64 (valE P n)) ∧ Below w.heap.size w w' := by
  by_cases h1 : P < 512
  · exact valR_lo P A n c w h1
  · by_cases h2 : 8192 < P
    · exact valR_hi P A n c w h1 h2
    · obtain ⟨p, rfl⟩ := Int.eq_ofNat_of_zero_le (show 0 ≤ P by omega)
      by_cases h3 : n = 0
      · exact valR_none p A n c w (by omega) (by omega) hn h3
      · by_cases h4 : n % p = 0
        · by_cases h5 : 8 < n / p
          · exact valR_many p A n c w (by omega) (by omega) hn h3 h4 h5
          · exact valR_ok p A n c w (by omega) (by omega) hn h3 h4 h5
        · exact valR_odd p A n c w (by omega) (by omega) hn h3 h4
set_option maxHeartbeats 1000000 in
theorem areR_bad (P : Int) (A : Option Addr) (n c : Nat) (pg a k : Int) (w : World) (hn : n ≤ 9223372036854775807) (h : ¬ valE P n = 0) :
    Calls Try.prog 26 #[.agg #[.int .i64 P, .slice A n c], .int .i64 pg, .int .i64 a, .int .i64 k] w fun e w' => e = .returned (.int .i64 (areE P n pg a k)) ∧ Below w.heap.size w w' := by
  have HB0 := Lib.hid ((Below.refl w.heap.size w).alloc (Nat.le_refl _) (.cells #[.int .i64 P, .slice A n c] 24))
  have hv : areE P n pg a k = valE P n := by unfold areE; rw [if_pos h]
  rw [hv]
  have c1 := fun w => valR_any P A n c w hn
  generalize valE P n = E at *
  have C1 := Lib.hid c1
  clear c1 hv
  go_enter Try.func26, Try.ntmps26
  go_wp2_with fail
  refine (C1.out _).mono ?_
  rintro e w1 ⟨rfl, hb⟩
  have HB1 := Lib.hid (HB0.out.trans (hb.mono HB0.out.size))
  have hb' := hb
  clear hb
  go_wp2
  go_ret
  exact ⟨rfl, HB1.out⟩
set_option maxHeartbeats 1000000 in
theorem areR_pg (p : Nat) (A : Option Addr) (n c : Nat) (pg a k : Int) (w : World) (h1 : 512 ≤ p) (h2 : p ≤ 8192) (hn : n ≤ 65536) (hv0 : valE (p : Int) n = 0)  (e0 : pg < 0) :
    Calls Try.prog 26 #[.agg #[.int .i64 (p : Int), .slice A n c], .int .i64 pg, .int .i64 a, .int .i64 k] w fun e w' => e = .returned (.int .i64 (areE (p : Int) n pg a k)) ∧ Below w.heap.size w w' := by
  have HB0 := Lib.hid ((Below.refl w.heap.size w).alloc (Nat.le_refl _) (.cells #[.int .i64 (p : Int), .slice A n c] 24))
  have hv : areE (p : Int) n pg a k = 9 := by
    unfold areE
    rw [if_neg (by omega), Int.toNat_natCast]
    exact if_pos (by omega)
  rw [hv]
  have c1 := fun w => valR_any (p : Int) A n c w (by omega)
  rw [hv0] at c1
  have C1 := Lib.hid c1
  have hpz : ¬ (p : Int) = 0 := by omega
  obtain ⟨q, hq⟩ : ∃ q, n / p = q := ⟨_, rfl⟩
  have hqI : (n : Int) / (p : Int) = (q : Int) := by rw [← hq]; exact (Int.natCast_ediv _ _).symm
  have hqT : Int.tdiv (n : Int) (p : Int) = (q : Int) := by rw [Int.tdiv_eq_ediv_of_nonneg (by omega)]; exact hqI
  have hqw : wrap64 (q : Int) = (q : Int) := by
    have := Nat.div_le_self n p
    unfold wrap64
    omega
  have f0 : pg < 0 := by omega
  clear c1 hv hv0 hq
  go_enter Try.func26, Try.ntmps26
  go_wp2_with fail
  refine (C1.out _).mono ?_
  rintro e w1 ⟨rfl, hb⟩
  have HB1 := Lib.hid (HB0.out.trans (hb.mono HB0.out.size))
  have hb' := hb
  clear hb
  have k0 := hb'.cell (p := ⟨w.heap.size, 0, none⟩) (by simp)
  have k1 := hb'.cell (p := ⟨w.heap.size, 1, none⟩) (by simp)
  clear hb'
  go_wp2
  go_ret
  exact ⟨rfl, HB1.out⟩
set_option maxHeartbeats 1000000 in
theorem areR_past (p : Nat) (A : Option Addr) (n c : Nat) (pg a k : Int) (w : World) (h1 : 512 ≤ p) (h2 : p ≤ 8192) (hn : n ≤ 65536) (hv0 : valE (p : Int) n = 0) (e0 : ¬ pg < 0) (e1 : ((n / p : Nat) : Int) ≤ pg) :
    Calls Try.prog 26 #[.agg #[.int .i64 (p : Int), .slice A n c], .int .i64 pg, .int .i64 a, .int .i64 k] w fun e w' => e = .returned (.int .i64 (areE (p : Int) n pg a k)) ∧ Below w.heap.size w w' := by
  have HB0 := Lib.hid ((Below.refl w.heap.size w).alloc (Nat.le_refl _) (.cells #[.int .i64 (p : Int), .slice A n c] 24))
  have hv : areE (p : Int) n pg a k = 9 := by
    unfold areE
    rw [if_neg (by omega), Int.toNat_natCast]
    exact if_pos (by omega)
  rw [hv]
  have c1 := fun w => valR_any (p : Int) A n c w (by omega)
  rw [hv0] at c1
  have C1 := Lib.hid c1
  have hpz : ¬ (p : Int) = 0 := by omega
  obtain ⟨q, hq⟩ : ∃ q, n / p = q := ⟨_, rfl⟩
  have hqI : (n : Int) / (p : Int) = (q : Int) := by rw [← hq]; exact (Int.natCast_ediv _ _).symm
  have hqT : Int.tdiv (n : Int) (p : Int) = (q : Int) := by rw [Int.tdiv_eq_ediv_of_nonneg (by omega)]; exact hqI
  have hqw : wrap64 (q : Int) = (q : Int) := by
    have := Nat.div_le_self n p
    unfold wrap64
    omega
  have f0 : ¬ pg < 0 := by omega
  have f1 : (q : Int) ≤ pg := by omega
  clear c1 hv hv0 hq
  go_enter Try.func26, Try.ntmps26
  go_wp2_with fail
  refine (C1.out _).mono ?_
  rintro e w1 ⟨rfl, hb⟩
  have HB1 := Lib.hid (HB0.out.trans (hb.mono HB0.out.size))
  have hb' := hb
  clear hb
  have k0 := hb'.cell (p := ⟨w.heap.size, 0, none⟩) (by simp)
  have k1 := hb'.cell (p := ⟨w.heap.size, 1, none⟩) (by simp)
  clear hb'
  go_wp2
  go_ret
  exact ⟨rfl, HB1.out⟩
set_option maxHeartbeats 1000000 in
theorem areR_at (p : Nat) (A : Option Addr) (n c : Nat) (pg a k : Int) (w : World) (h1 : 512 ≤ p) (h2 : p ≤ 8192) (hn : n ≤ 65536) (hv0 : valE (p : Int) n = 0) (e0 : ¬ pg < 0) (e1 : ¬ ((n / p : Nat) : Int) ≤ pg) (e2 : a < 0) :
    Calls Try.prog 26 #[.agg #[.int .i64 (p : Int), .slice A n c], .int .i64 pg, .int .i64 a, .int .i64 k] w fun e w' => e = .returned (.int .i64 (areE (p : Int) n pg a k)) ∧ Below w.heap.size w w' := by
  have HB0 := Lib.hid ((Below.refl w.heap.size w).alloc (Nat.le_refl _) (.cells #[.int .i64 (p : Int), .slice A n c] 24))
  have hv : areE (p : Int) n pg a k = 9 := by
    unfold areE
    rw [if_neg (by omega), Int.toNat_natCast]
    exact if_pos (by omega)
  rw [hv]
  have c1 := fun w => valR_any (p : Int) A n c w (by omega)
  rw [hv0] at c1
  have C1 := Lib.hid c1
  have hpz : ¬ (p : Int) = 0 := by omega
  obtain ⟨q, hq⟩ : ∃ q, n / p = q := ⟨_, rfl⟩
  have hqI : (n : Int) / (p : Int) = (q : Int) := by rw [← hq]; exact (Int.natCast_ediv _ _).symm
  have hqT : Int.tdiv (n : Int) (p : Int) = (q : Int) := by rw [Int.tdiv_eq_ediv_of_nonneg (by omega)]; exact hqI
  have hqw : wrap64 (q : Int) = (q : Int) := by
    have := Nat.div_le_self n p
    unfold wrap64
    omega
  have f0 : ¬ pg < 0 := by omega
  have f1 : ¬ (q : Int) ≤ pg := by omega
  have f2 : a < 0 := by omega
  clear c1 hv hv0 hq
  go_enter Try.func26, Try.ntmps26
  go_wp2_with fail
  refine (C1.out _).mono ?_
  rintro e w1 ⟨rfl, hb⟩
  have HB1 := Lib.hid (HB0.out.trans (hb.mono HB0.out.size))
  have hb' := hb
  clear hb
  have k0 := hb'.cell (p := ⟨w.heap.size, 0, none⟩) (by simp)
  have k1 := hb'.cell (p := ⟨w.heap.size, 1, none⟩) (by simp)
  clear hb'
  go_wp2
  go_ret
  exact ⟨rfl, HB1.out⟩
set_option maxHeartbeats 1000000 in
theorem areR_neg (p : Nat) (A : Option Addr) (n c : Nat) (pg a k : Int) (w : World) (h1 : 512 ≤ p) (h2 : p ≤ 8192) (hn : n ≤ 65536) (hv0 : valE (p : Int) n = 0) (e0 : ¬ pg < 0) (e1 : ¬ ((n / p : Nat) : Int) ≤ pg) (e2 : ¬ a < 0) (e3 : k < 0) :
    Calls Try.prog 26 #[.agg #[.int .i64 (p : Int), .slice A n c], .int .i64 pg, .int .i64 a, .int .i64 k] w fun e w' => e = .returned (.int .i64 (areE (p : Int) n pg a k)) ∧ Below w.heap.size w w' := by
  have HB0 := Lib.hid ((Below.refl w.heap.size w).alloc (Nat.le_refl _) (.cells #[.int .i64 (p : Int), .slice A n c] 24))
  have hv : areE (p : Int) n pg a k = 9 := by
    unfold areE
    rw [if_neg (by omega), Int.toNat_natCast]
    exact if_pos (by omega)
  rw [hv]
  have c1 := fun w => valR_any (p : Int) A n c w (by omega)
  rw [hv0] at c1
  have C1 := Lib.hid c1
  have hpz : ¬ (p : Int) = 0 := by omega
  obtain ⟨q, hq⟩ : ∃ q, n / p = q := ⟨_, rfl⟩
  have hqI : (n : Int) / (p : Int) = (q : Int) := by rw [← hq]; exact (Int.natCast_ediv _ _).symm
  have hqT : Int.tdiv (n : Int) (p : Int) = (q : Int) := by rw [Int.tdiv_eq_ediv_of_nonneg (by omega)]; exact hqI
  have hqw : wrap64 (q : Int) = (q : Int) := by
    have := Nat.div_le_self n p
    unfold wrap64
    omega
  have f0 : ¬ pg < 0 := by omega
  have f1 : ¬ (q : Int) ≤ pg := by omega
  have f2 : ¬ a < 0 := by omega
  have f3 : k < 0 := by omega
  clear c1 hv hv0 hq
  go_enter Try.func26, Try.ntmps26
  go_wp2_with fail
  refine (C1.out _).mono ?_
  rintro e w1 ⟨rfl, hb⟩
  have HB1 := Lib.hid (HB0.out.trans (hb.mono HB0.out.size))
  have hb' := hb
  clear hb
  have k0 := hb'.cell (p := ⟨w.heap.size, 0, none⟩) (by simp)
  have k1 := hb'.cell (p := ⟨w.heap.size, 1, none⟩) (by simp)
  clear hb'
  go_wp2
  go_ret
  exact ⟨rfl, HB1.out⟩
set_option maxHeartbeats 1000000 in
theorem areR_off (p : Nat) (A : Option Addr) (n c : Nat) (pg a k : Int) (w : World) (h1 : 512 ≤ p) (h2 : p ≤ 8192) (hn : n ≤ 65536) (hv0 : valE (p : Int) n = 0) (e0 : ¬ pg < 0) (e1 : ¬ ((n / p : Nat) : Int) ≤ pg) (e2 : ¬ a < 0) (e3 : ¬ k < 0) (e4 : (p : Int) < a) :
    Calls Try.prog 26 #[.agg #[.int .i64 (p : Int), .slice A n c], .int .i64 pg, .int .i64 a, .int .i64 k] w fun e w' => e = .returned (.int .i64 (areE (p : Int) n pg a k)) ∧ Below w.heap.size w w' := by
  have HB0 := Lib.hid ((Below.refl w.heap.size w).alloc (Nat.le_refl _) (.cells #[.int .i64 (p : Int), .slice A n c] 24))
  have hv : areE (p : Int) n pg a k = 9 := by
    unfold areE
    rw [if_neg (by omega), Int.toNat_natCast]
    exact if_pos (by omega)
  rw [hv]
  have c1 := fun w => valR_any (p : Int) A n c w (by omega)
  rw [hv0] at c1
  have C1 := Lib.hid c1
  have hpz : ¬ (p : Int) = 0 := by omega
  obtain ⟨q, hq⟩ : ∃ q, n / p = q := ⟨_, rfl⟩
  have hqI : (n : Int) / (p : Int) = (q : Int) := by rw [← hq]; exact (Int.natCast_ediv _ _).symm
  have hqT : Int.tdiv (n : Int) (p : Int) = (q : Int) := by rw [Int.tdiv_eq_ediv_of_nonneg (by omega)]; exact hqI
  have hqw : wrap64 (q : Int) = (q : Int) := by
    have := Nat.div_le_self n p
    unfold wrap64
    omega
  have f0 : ¬ pg < 0 := by omega
  have f1 : ¬ (q : Int) ≤ pg := by omega
  have f2 : ¬ a < 0 := by omega
  have f3 : ¬ k < 0 := by omega
  have f4 : (p : Int) < a := by omega
  clear c1 hv hv0 hq
  go_enter Try.func26, Try.ntmps26
  go_wp2_with fail
  refine (C1.out _).mono ?_
  rintro e w1 ⟨rfl, hb⟩
  have HB1 := Lib.hid (HB0.out.trans (hb.mono HB0.out.size))
  have hb' := hb
  clear hb
  have k0 := hb'.cell (p := ⟨w.heap.size, 0, none⟩) (by simp)
  have k1 := hb'.cell (p := ⟨w.heap.size, 1, none⟩) (by simp)
  clear hb'
  go_wp2
  go_ret
  exact ⟨rfl, HB1.out⟩
set_option maxHeartbeats 1000000 in
theorem areR_len (p : Nat) (A : Option Addr) (n c : Nat) (pg a k : Int) (w : World) (h1 : 512 ≤ p) (h2 : p ≤ 8192) (hn : n ≤ 65536) (hv0 : valE (p : Int) n = 0) (e0 : ¬ pg < 0) (e1 : ¬ ((n / p : Nat) : Int) ≤ pg) (e2 : ¬ a < 0) (e3 : ¬ k < 0) (e4 : ¬ (p : Int) < a) (e5 : (p : Int) - a < k) :
    Calls Try.prog 26 #[.agg #[.int .i64 (p : Int), .slice A n c], .int .i64 pg, .int .i64 a, .int .i64 k] w fun e w' => e = .returned (.int .i64 (areE (p : Int) n pg a k)) ∧ Below w.heap.size w w' := by
  have HB0 := Lib.hid ((Below.refl w.heap.size w).alloc (Nat.le_refl _) (.cells #[.int .i64 (p : Int), .slice A n c] 24))
  have hv : areE (p : Int) n pg a k = 9 := by
    unfold areE
    rw [if_neg (by omega), Int.toNat_natCast]
    exact if_pos (by omega)
  rw [hv]
  have c1 := fun w => valR_any (p : Int) A n c w (by omega)
  rw [hv0] at c1
  have C1 := Lib.hid c1
  have hpz : ¬ (p : Int) = 0 := by omega
  obtain ⟨q, hq⟩ : ∃ q, n / p = q := ⟨_, rfl⟩
  have hqI : (n : Int) / (p : Int) = (q : Int) := by rw [← hq]; exact (Int.natCast_ediv _ _).symm
  have hqT : Int.tdiv (n : Int) (p : Int) = (q : Int) := by rw [Int.tdiv_eq_ediv_of_nonneg (by omega)]; exact hqI
  have hqw : wrap64 (q : Int) = (q : Int) := by
    have := Nat.div_le_self n p
    unfold wrap64
    omega
  have f0 : ¬ pg < 0 := by omega
  have f1 : ¬ (q : Int) ≤ pg := by omega
  have f2 : ¬ a < 0 := by omega
  have f3 : ¬ k < 0 := by omega
  have f4 : ¬ (p : Int) < a := by omega
  have f5 : (p : Int) - a < k := by omega
  have hsw : wrap64 ((p : Int) - a) = (p : Int) - a := by unfold wrap64; omega
  clear c1 hv hv0 hq
  go_enter Try.func26, Try.ntmps26
  go_wp2_with fail
  refine (C1.out _).mono ?_
  rintro e w1 ⟨rfl, hb⟩
  have HB1 := Lib.hid (HB0.out.trans (hb.mono HB0.out.size))
  have hb' := hb
  clear hb
  have k0 := hb'.cell (p := ⟨w.heap.size, 0, none⟩) (by simp)
  have k1 := hb'.cell (p := ⟨w.heap.size, 1, none⟩) (by simp)
  clear hb'
  go_wp2
  go_ret
  exact ⟨rfl, HB1.out⟩
set_option maxHeartbeats 1000000 in
theorem areR_ok (p : Nat) (A : Option Addr) (n c : Nat) (pg a k : Int) (w : World) (h1 : 512 ≤ p) (h2 : p ≤ 8192) (hn : n ≤ 65536) (hv0 : valE (p : Int) n = 0) (e0 : ¬ pg < 0) (e1 : ¬ ((n / p : Nat) : Int) ≤ pg) (e2 : ¬ a < 0) (e3 : ¬ k < 0) (e4 : ¬ (p : Int) < a) (e5 : ¬ (p : Int) - a < k) :
    Calls Try.prog 26 #[.agg #[.int .i64 (p : Int), .slice A n c], .int .i64 pg, .int .i64 a, .int .i64 k] w fun e w' => e = .returned (.int .i64 (areE (p : Int) n pg a k)) ∧ Below w.heap.size w w' := by
  have HB0 := Lib.hid ((Below.refl w.heap.size w).alloc (Nat.le_refl _) (.cells #[.int .i64 (p : Int), .slice A n c] 24))
  have hv : areE (p : Int) n pg a k = 0 := by
    unfold areE
    rw [if_neg (by omega), Int.toNat_natCast]
    exact if_neg (by omega)
  rw [hv]
  have c1 := fun w => valR_any (p : Int) A n c w (by omega)
  rw [hv0] at c1
  have C1 := Lib.hid c1
  have hpz : ¬ (p : Int) = 0 := by omega
  obtain ⟨q, hq⟩ : ∃ q, n / p = q := ⟨_, rfl⟩
  have hqI : (n : Int) / (p : Int) = (q : Int) := by rw [← hq]; exact (Int.natCast_ediv _ _).symm
  have hqT : Int.tdiv (n : Int) (p : Int) = (q : Int) := by rw [Int.tdiv_eq_ediv_of_nonneg (by omega)]; exact hqI
  have hqw : wrap64 (q : Int) = (q : Int) := by
    have := Nat.div_le_self n p
    unfold wrap64
    omega
  have f0 : ¬ pg < 0 := by omega
  have f1 : ¬ (q : Int) ≤ pg := by omega
  have f2 : ¬ a < 0 := by omega
  have f3 : ¬ k < 0 := by omega
  have f4 : ¬ (p : Int) < a := by omega
  have f5 : ¬ (p : Int) - a < k := by omega
  have hsw : wrap64 ((p : Int) - a) = (p : Int) - a := by unfold wrap64; omega
  clear c1 hv hv0 hq
  go_enter Try.func26, Try.ntmps26
  go_wp2_with fail
  refine (C1.out _).mono ?_
  rintro e w1 ⟨rfl, hb⟩
  have HB1 := Lib.hid (HB0.out.trans (hb.mono HB0.out.size))
  have hb' := hb
  clear hb
  have k0 := hb'.cell (p := ⟨w.heap.size, 0, none⟩) (by simp)
  have k1 := hb'.cell (p := ⟨w.heap.size, 1, none⟩) (by simp)
  clear hb'
  go_wp2
  go_ret
  exact ⟨rfl, HB1.out⟩
theorem areR_any (P : Int) (A : Option Addr) (n c : Nat) (pg a k : Int) (w : World) (hn : n ≤ 9223372036854775807) :
    Calls Try.prog 26 #[.agg #[.int .i64 P, .slice A n c], .int .i64 pg, .int .i64 a, .int .i64 k] w fun e w' => e = .returned (.int .i64 (areE P n pg a k)) ∧ Below w.heap.size w w' := by
  by_cases h : valE P n = 0
  · have hb := valE_big h
    obtain ⟨p, rfl, h1, h2, _⟩ := valE_ok h
    by_cases e0 : pg < 0
    · exact areR_pg p A n c pg a k w h1 h2 hb h  e0
    by_cases e1 : ((n / p : Nat) : Int) ≤ pg
    · exact areR_past p A n c pg a k w h1 h2 hb h e0 e1
    by_cases e2 : a < 0
    · exact areR_at p A n c pg a k w h1 h2 hb h e0 e1 e2
    by_cases e3 : k < 0
    · exact areR_neg p A n c pg a k w h1 h2 hb h e0 e1 e2 e3
    by_cases e4 : (p : Int) < a
    · exact areR_off p A n c pg a k w h1 h2 hb h e0 e1 e2 e3 e4
    by_cases e5 : (p : Int) - a < k
    · exact areR_len p A n c pg a k w h1 h2 hb h e0 e1 e2 e3 e4 e5
    exact areR_ok p A n c pg a k w h1 h2 hb h e0 e1 e2 e3 e4 e5
  · exact areR_bad P A n c pg a k w hn h
end Go.Proofs.Ytgoajnljgbcmdaa
