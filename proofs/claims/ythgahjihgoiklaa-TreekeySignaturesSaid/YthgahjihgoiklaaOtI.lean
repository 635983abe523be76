/- Two different words: each has a digit that is smaller (plain); the checks 'awake' and 'incomparable'. -/
import Derived.Test.YthgahjihgoiklaaOtH
namespace Go.Proofs.Ythgahjihgoiklaa
open Go.RowKit
set_option maxRecDepth 100000

/-- is one of the first k digits of m smaller than that of n? -/
def anyLt (m n : BitVec 64) : Nat → Bool
  | 0 => false
  | k + 1 => anyLt m n k || decide (dig m k < dig n k)
theorem anyLt_same (m : BitVec 64) : ∀ k, anyLt m m k = false
  | 0 => rfl
  | k + 1 => by simp [anyLt, anyLt_same m k]
theorem anyLt_none {m n : BitVec 64} : ∀ {k : Nat}, anyLt m n k = false → ∀ i, i < k → dig n i ≤ dig m i
  | k + 1, h, i, hi => by
    simp only [anyLt, Bool.or_eq_false_iff, decide_eq_false_iff_not] at h
    rcases Nat.lt_or_ge i k with h1 | h1
    · exact anyLt_none h.1 i h1
    · obtain rfl : i = k := by omega
      omega
theorem chk_le (m n : BitVec 64) : ∀ k, (∀ i, i < k → hexd n i ≤ hexd m i) → chkTo m k ≤ chkTo n k ∧ (chkTo m k = chkTo n k → ∀ i, i < k → hexd m i = hexd n i)
  | 0, _ => ⟨Int.le_refl _, fun _ i hi => absurd hi (by omega)⟩
  | k + 1, h => by
    have ih := chk_le m n k fun i hi => h i (by omega)
    have hk := h k (by omega)
    simp only [chkTo]
    refine ⟨by omega, fun he i hi => ?_⟩
    rcases Nat.lt_or_ge i k with h1 | h1
    · exact ih.2 (by omega) i h1
    · obtain rfl : i = k := by omega
      omega
theorem div16 (x : Int) (j : Nat) : x / 2 ^ (j + 4) = x / 2 ^ j / 16 := by
  rw [Int.pow_add, ← Int.ediv_ediv_of_nonneg (Int.le_of_lt (Int.pow_pos (by decide)))]
  rfl
theorem hex_top (m n : BitVec 64) (h : ∀ i, i < 16 → hexd m i = hexd n i) : ∀ k, k ≤ 16 → val m / 2 ^ (4 * (16 - k)) = val n / 2 ^ (4 * (16 - k))
  | 0, _ => by
    have h1 := val_lo m
    have h2 := val_hi m
    have h3 := val_lo n
    have h4 := val_hi n
    have e : (2 : Int) ^ (4 * (16 - 0)) = 18446744073709551616 := by decide
    rw [e]
    omega
  | k + 1, hk => by
    have ih := hex_top m n h k (by omega)
    have hd := h k (by omega)
    unfold hexd at hd
    rw [show 4 * (16 - k) = 4 * (15 - k) + 4 by omega, div16, div16] at ih
    rw [show 16 - (k + 1) = 15 - k by omega]
    omega
theorem hex_eq (m n : BitVec 64) (h : ∀ i, i < 16 → hexd m i = hexd n i) : m = n := by
  have := hex_top m n h 16 (by omega)
  simp at this
  exact val_inj this
theorem anyLt_ne (m n : BitVec 64) (h : m ≠ n) : anyLt m n 18 = true := by
  rcases hb : anyLt m n 18 with _ | _
  · exfalso
    have ha := anyLt_none hb
    have hh : ∀ i, i < 16 → hexd n i ≤ hexd m i := fun i hi => by
      have := ha i (by omega)
      rw [dig_lt _ _ hi, dig_lt _ _ hi] at this
      exact this
    have hc := chk_le m n 16 hh
    have h16 : chkTo n 16 / 16 ≤ chkTo m 16 / 16 := ha 16 (by omega)
    have h17 : chkTo n 16 % 16 ≤ chkTo m 16 % 16 := ha 17 (by omega)
    exact h (hex_eq m n (hc.2 (by omega)))
  · rfl

theorem Ns.cellAt {w : World} {g n : Nat} {l : List Int} (h : Ns w (some ⟨g, 0, none⟩) n l) (i : Nat) (hi : i < n) : w.cell? ⟨g, i, none⟩ = some (.int .i64 (l.getD i 0)) := by
  obtain ⟨a, e, hc⟩ := h.at_ i hi
  cases e
  rw [addr_add] at hc
  exact hc

theorem dig0 : (digits 0#64).getD 0 0 = 0 ∧ (digits 0#64).getD 16 0 = 15 ∧ (digits 0#64).getD 17 0 = 0 := by decide +kernel
theorem dig1 : (digits 18446744073709551615#64).getD 0 0 = 15 ∧ (digits 18446744073709551615#64).getD 16 0 = 0 ∧ (digits 18446744073709551615#64).getD 17 0 = 0 := by decide +kernel
theorem run_nine (w : World) : Calls Try.prog 51 #[.int .i64 1, .int .i64 2, .int .i64 5, .int .i64 5, .int .u64 9] w fun e w' => e = .returned (.int .u64 9) ∧ Below w.heap.size w w' := run_any 1 2 5 5 9#64 w (by omega)

set_option maxHeartbeats 1000000 in
theorem same_words (A B : Option Addr) (n c c' : Nat) (l : List (BitVec 64)) (w : World) (ha : Ws w A n l) (hb : Ws w B n l) (hn : n ≤ 1000000) :
    Calls Try.prog 33 #[.slice A n c, .slice B n c'] w fun e w' => e = .returned (.bool true) ∧ Below w.heap.size w w' := by
  go_enter Try.func33, Try.ntmps33
  go_wp2
  go_loopw [5] (fun i wr => ∃ k : Nat, i = .int .i64 k ∧ k ≤ n ∧ Below w.heap.size w wr) (fun i _ => n - (intOf i).toNat)
  case atStart => exact ⟨0, rfl, Nat.zero_le _, Below.refl _ _⟩
  case round =>
    obtain ⟨k, rfl, hk, hbk⟩ := hrel
    have HB := Lib.hid hbk
    by_cases hlt : k < n
    · obtain ⟨a, rfl, hca⟩ := (ha.below hbk).at_ k hlt
      obtain ⟨b, rfl, hcb⟩ := (hb.below hbk).at_ k hlt
      clear hbk
      go_wp2_with (first | go_region | fail)
      go_roundw
      case rel => exact ⟨k + 1, by go_num, by omega, HB.out.drew⟩
      case measure => (simp [intOf] <;> omega)
    · clear hbk
      go_wp2
      go_ret
      exact ⟨rfl, HB.out⟩
end Go.Proofs.Ythgahjihgoiklaa
