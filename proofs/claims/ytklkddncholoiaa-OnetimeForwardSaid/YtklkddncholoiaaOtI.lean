/- Two different words: each has a digit that is smaller (plain); the checks 'awake' and 'incomparable'. -/
import Derived.Test.YtklkddncholoiaaOtH
namespace Go.Proofs.Ytklkddncholoiaa
open Go.RowKit
set_option maxRecDepth 100000

/-- is one of the first k digits of m smaller than that of n? -/
def anyLt (m n : BitVec 64) : Nat → Bool
  | 0 => false
  | k + 1 => anyLt m n k || decide (dig m k < dig n k)
theorem anyLt_same (m : BitVec 64) : ∀ k, anyLt m m k = false
  | 0 => rfl
  | k + 1 => by simp [anyLt, anyLt_same m k]
theorem anyLt_none {m n : BitVec 64} : ∀ {k : Nat}, anyLt m n k = false → ∀ i, i < k → dig n i ≤ dig m i
  | k + 1, h, i, hi => by
    simp only [anyLt, Bool.or_eq_false_iff, decide_eq_false_iff_not] at h
    rcases Nat.lt_or_ge i k with h1 | h1
    · exact anyLt_none h.1 i h1
    · obtain rfl : i = k := by omega
      omega
theorem chk_le (m n : BitVec 64) : ∀ k, (∀ i, i < k → hexd n i ≤ hexd m i) → chkTo m k ≤ chkTo n k ∧ (chkTo m k = chkTo n k → ∀ i, i < k → hexd m i = hexd n i)
  | 0, _ => ⟨Int.le_refl _, fun _ i hi => absurd hi (by omega)⟩
  | k + 1, h => by
    have ih := chk_le m n k fun i hi => h i (by omega)
    have hk := h k (by omega)
    simp only [chkTo]
    refine ⟨by omega, fun he i hi => ?_⟩
    rcases Nat.lt_or_ge i k with h1 | h1
    · exact ih.2 (by omega) i h1
    · obtain rfl : i = k := by omega
      omega
theorem div16 (x : Int) (j : Nat) : x / 2 ^ (j + 4) = x / 2 ^ j / 16 := by
  rw [Int.pow_add, ← Int.ediv_ediv_of_nonneg (Int.le_of_lt (Int.pow_pos (by decide)))]
  rfl
theorem hex_top (m n : BitVec 64) (h : ∀ i, i < 16 → hexd m i = hexd n i) : ∀ k, k ≤ 16 → val m / 2 ^ (4 * (16 - k)) = val n / 2 ^ (4 * (16 - k))
  | 0, _ => by
    have h1 := val_lo m
    have h2 := val_hi m
    have h3 := val_lo n
    have h4 := val_hi n
    have e : (2 : Int) ^ (4 * (16 - 0)) = 18446744073709551616 := by decide
    rw [e]
    omega
  | k + 1, hk => by
    have ih := hex_top m n h k (by omega)
    have hd := h k (by omega)
    unfold hexd at hd
    rw [show 4 * (16 - k) = 4 * (15 - k) + 4 by omega, div16, div16] at ih
    rw [show 16 - (k + 1) = 15 - k by omega]
    omega
theorem hex_eq (m n : BitVec 64) (h : ∀ i, i < 16 → hexd m i = hexd n i) : m = n := by
  have := hex_top m n h 16 (by omega)
  simp at this
  exact val_inj this
theorem anyLt_ne (m n : BitVec 64) (h : m ≠ n) : anyLt m n 18 = true := by
  rcases hb : anyLt m n 18 with _ | _
  · exfalso
    have ha := anyLt_none hb
    have hh : ∀ i, i < 16 → hexd n i ≤ hexd m i := fun i hi => by
      have := ha i (by omega)
      rw [dig_lt _ _ hi, dig_lt _ _ hi] at this
      exact this
    have hc := chk_le m n 16 hh
    have h16 : chkTo n 16 / 16 ≤ chkTo m 16 / 16 := ha 16 (by omega)
    have h17 : chkTo n 16 % 16 ≤ chkTo m 16 % 16 := ha 17 (by omega)
    exact h (hex_eq m n (hc.2 (by omega)))
  · rfl

theorem Ns.cellAt {w : World} {g n : Nat} {l : List Int} (h : Ns w (some ⟨g, 0, none⟩) n l) (i : Nat) (hi : i < n) : w.cell? ⟨g, i, none⟩ = some (.int .i64 (l.getD i 0)) := by
  obtain ⟨a, e, hc⟩ := h.at_ i hi
  cases e
  rw [addr_add] at hc
  exact hc

set_option maxHeartbeats 1000000 in
theorem incomp_any (m n : BitVec 64) (w : World) :
    Calls Try.prog 14 #[.int .u64 (val m), .int .u64 (val n)] w fun e w' => e = .returned (.bool true) ∧ Below w.heap.size w w' := by
  go_enter Try.func14, Try.ntmps14
  go_wp2_with fail
  refine (splitS_any m _).mono ?_
  rintro e w1 ⟨ga, rfl, hA, hb1⟩
  go_wp2_with fail
  refine (splitS_any n _).mono ?_
  rintro e w2 ⟨gb, rfl, hB, hb2⟩
  have HA := Lib.hid (hA.below hb2)
  have HBn := Lib.hid hB
  have HB := Lib.hid (hb1.trans (hb2.mono hb1.size))
  clear hA hB hb1 hb2
  go_wp2
  go_loopw [7, 8, 9] (fun p q i wr => ∃ k : Nat, i = .int .i64 k ∧ k ≤ 18 ∧ p = .bool (anyLt m n k) ∧ q = .bool (anyLt n m k) ∧ Below w2.heap.size w2 wr) (fun _ _ i _ => 18 - (intOf i).toNat)
  case atStart => exact ⟨0, rfl, Nat.zero_le _, rfl, rfl, Below.refl _ _⟩
  case round =>
    obtain ⟨k, rfl, hk, rfl, rfl, hbk⟩ := hrel
    have HK := Lib.hid hbk
    by_cases hk18 : k < 18
    · have hca := (HA.out.below hbk).cellAt k hk18
      have hcb := (HBn.out.below hbk).cellAt k hk18
      rw [digits_at _ _ hk18] at hca hcb
      have s1 : anyLt m n (k + 1) = (anyLt m n k || decide (dig m k < dig n k)) := rfl
      have s2 : anyLt n m (k + 1) = (anyLt n m k || decide (dig n k < dig m k)) := rfl
      have S1 := Lib.hid s1
      have S2 := Lib.hid s2
      generalize anyLt m n k = p at *
      generalize anyLt n m k = q at *
      clear hbk s1 s2
      cases p <;> cases q
      all_goals go_wp2
      all_goals go_region
      all_goals go_wp2
      all_goals go_roundw
      all_goals first
        | exact ⟨k + 1, by go_num, by omega, by rw [S1.out]; rfl, by rw [S2.out]; rfl, HK.out.drew⟩
        | (simp [intOf] <;> omega)
    · have hk' : k = 18 := by omega
      subst hk'
      clear hbk
      by_cases hmn : m = n
      · subst hmn
        rw [anyLt_same]
        go_wp2
        go_ret
        exact ⟨rfl, HB.out.trans (HK.out.mono HB.out.size)⟩
      · rw [anyLt_ne m n hmn, anyLt_ne n m (fun e => hmn e.symm)]
        have hv : ¬ val m = val n := fun e => hmn (val_inj e)
        go_wp2
        go_ret
        refine ⟨?_, HB.out.trans (HK.out.mono HB.out.size)⟩
        have hne : (val m != val n) = true := by simp [hv]
        show Ending.returned (.bool (val m != val n)) = _
        rw [hne]

theorem dig0 : (digits 0#64).getD 0 0 = 0 ∧ (digits 0#64).getD 16 0 = 15 ∧ (digits 0#64).getD 17 0 = 0 := by decide +kernel
theorem dig1 : (digits 18446744073709551615#64).getD 0 0 = 15 ∧ (digits 18446744073709551615#64).getD 16 0 = 0 ∧ (digits 18446744073709551615#64).getD 17 0 = 0 := by decide +kernel
theorem split_zero (w : World) :
    Calls Try.prog 11 #[.int .u64 0] w fun e w' => ∃ g, e = .returned (.slice (some ⟨g, 0, none⟩) 18 18) ∧ Ns w' (some ⟨g, 0, none⟩) 18 (digits 0#64) ∧ Below w.heap.size w w' := splitS_any 0#64 w
theorem split_ones (w : World) :
    Calls Try.prog 11 #[.int .u64 18446744073709551615] w fun e w' => ∃ g, e = .returned (.slice (some ⟨g, 0, none⟩) 18 18) ∧ Ns w' (some ⟨g, 0, none⟩) 18 (digits 18446744073709551615#64) ∧ Below w.heap.size w w' := splitS_any 18446744073709551615#64 w
theorem run_nine (w : World) : Calls Try.prog 15 #[.int .i64 1, .int .i64 2, .int .i64 5, .int .i64 5, .int .u64 9] w fun e w' => e = .returned (.int .u64 9) ∧ Below w.heap.size w w' := run_any 1 2 5 5 9#64 w (by omega)

set_option maxHeartbeats 1000000 in
theorem awakeO_any (w : World) :
    Calls Try.prog 13 #[] w fun e w' => e = .returned (.bool true) ∧ Below w.heap.size w w' := by
  go_enter Try.func13, Try.ntmps13
  go_wp2_with fail
  refine (split_zero _).mono ?_
  rintro e w1 ⟨ga, rfl, hA, hb1⟩
  go_wp2_with fail
  refine (split_ones _).mono ?_
  rintro e w2 ⟨gb, rfl, hB, hb2⟩
  have hA2 := hA.below hb2
  have HB := Lib.hid (hb1.trans (hb2.mono hb1.size))
  obtain ⟨d0, d1, d2⟩ := dig0
  obtain ⟨e0, e1, e2⟩ := dig1
  have a0 := hA2.cellAt 0 (by omega)
  have a1 := hA2.cellAt 16 (by omega)
  have a2 := hA2.cellAt 17 (by omega)
  have b0 := hB.cellAt 0 (by omega)
  have b1 := hB.cellAt 16 (by omega)
  have b2 := hB.cellAt 17 (by omega)
  rw [d0] at a0
  rw [d1] at a1
  rw [d2] at a2
  rw [e0] at b0
  rw [e1] at b1
  rw [e2] at b2
  clear d0 d1 d2 e0 e1 e2 hA hA2 hB hb1 hb2
  go_wp2_with fail
  refine (run_nine _).mono ?_
  rintro e w3 ⟨rfl, hb3⟩
  go_wp2
  go_ret
  exact ⟨rfl, HB.out.trans (hb3.mono HB.out.size)⟩

set_option maxHeartbeats 1000000 in
theorem same_words (A B : Option Addr) (n c c' : Nat) (l : List (BitVec 64)) (w : World) (ha : Ws w A n l) (hb : Ws w B n l) (hn : n ≤ 1000000) :
    Calls Try.prog 25 #[.slice A n c, .slice B n c'] w fun e w' => e = .returned (.bool true) ∧ Below w.heap.size w w' := by
  go_enter Try.func25, Try.ntmps25
  go_wp2
  go_loopw [5] (fun i wr => ∃ k : Nat, i = .int .i64 k ∧ k ≤ n ∧ Below w.heap.size w wr) (fun i _ => n - (intOf i).toNat)
  case atStart => exact ⟨0, rfl, Nat.zero_le _, Below.refl _ _⟩
  case round =>
    obtain ⟨k, rfl, hk, hbk⟩ := hrel
    have HB := Lib.hid hbk
    by_cases hlt : k < n
    · obtain ⟨a, rfl, hca⟩ := (ha.below hbk).at_ k hlt
      obtain ⟨b, rfl, hcb⟩ := (hb.below hbk).at_ k hlt
      clear hbk
      go_wp2_with (first | go_region | fail)
      go_roundw
      case rel => exact ⟨k + 1, by go_num, by omega, HB.out.drew⟩
      case measure => (simp [intOf] <;> omega)
    · clear hbk
      go_wp2
      go_ret
      exact ⟨rfl, HB.out⟩
end Go.Proofs.Ytklkddncholoiaa
