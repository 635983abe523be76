/- Mul and Power of the reference. -/
import Derived.Test.YtampadcdmildfaaExA
import Derived.Test.YtampadcdmildfaaSipN
import Derived.Lib.Zigzag
namespace Go.Proofs.Ytampadcdmildfaa
open Go.RowKit
set_option maxRecDepth 100000

theorem and1_ (n : Nat) (h : n < 18446744073709551616) : bits .and .u64 (n : Int) 1 = ((n % 2 : Nat) : Int) := by
  rw [Lib.u64_and1 _ (by omega) (by omega)]
  omega
set_option maxHeartbeats 1000000 in
theorem mulR_any (a b : Nat) (w : World) (ha : a < 18446744073709551616) (hb : b < 18446744073709551616) :
    Calls Try.prog 10 #[.int .u64 (a : Int), .int .u64 (b : Int)] w fun e w' => e = .returned (.int .u64 (mulN a b : Int)) ∧ w = w' := by
  obtain ⟨A, hA⟩ : ∃ A, a % 2305843009213693951 = A := ⟨_, rfl⟩
  obtain ⟨B, hB⟩ : ∃ B, b % 2305843009213693951 = B := ⟨_, rfl⟩
  have hAl : A < 2305843009213693951 := by omega
  have hBl : B < 2305843009213693951 := by omega
  have hAI : (a : Int) % 2305843009213693951 = (A : Int) := by omega
  have hBI : (b : Int) % 2305843009213693951 = (B : Int) := by omega
  have HM : Hid (mulN B A = mulN a b) := Lib.hid (by rw [← hA, ← hB, mulN_mod, mulN_comm])
  clear hA hB
  go_enter Try.func10, Try.ntmps10
  go_wp2_with fail
  go_loopw [5, 6] (fun xv iv wr => wr = w ∧ ∃ j X : Nat, j ≤ 61 ∧ iv = .int .i64 ((j : Int) - 1) ∧ xv = .int .u64 (X : Int) ∧ X = mulN (B / 2 ^ j) A) (fun _ iv _ => (intOf iv + 1).toNat)
  case atStart => exact ⟨rfl, 61, 0, by omega, rfl, rfl, by rw [Nat.div_eq_of_lt (by omega)]; unfold mulN; rw [Nat.zero_mul, Nat.zero_mod]⟩
  case round =>
    obtain ⟨rfl, j, X, hj, rfl, rfl, hX⟩ := hrel
    have hXl : X < 2305843009213693951 := by rw [hX]; exact mulN_lt _ _
    rcases j with _ | m
    · have hXX : X = mulN a b := by rw [← HM.out, hX, Nat.pow_zero, Nat.div_one]
      have HXX := Lib.hid hXX
      clear hX hXX
      rw [show ((0 : Nat) : Int) - 1 = -1 by decide]
      go_wp2
      go_ret
      exact ⟨by rw [HXX.out]; rfl, rfl⟩
    · rw [show ((m + 1 : Nat) : Int) - 1 = (m : Int) by omega]
      have hm0 : (0 : Int) ≤ (m : Int) := by omega
      have hmw : IntKind.u64.wrap (m : Int) = (m : Int) := by rw [IntKind.wrap_u64]; omega
      have hm63 : ¬ (63 : Int) < (m : Int) := by omega
      have hmm : min m 64 = m := by omega
      obtain ⟨T, hT⟩ : ∃ T, X * 2 = T := ⟨_, rfl⟩
      obtain ⟨Y, hY⟩ : ∃ Y, T % 2305843009213693951 = Y := ⟨_, rfl⟩
      obtain ⟨Q, hQ⟩ : ∃ Q, B / 2 ^ m = Q := ⟨_, rfl⟩
      have hTw : IntKind.u64.wrap ((X : Int) * 2) = (T : Int) := by rw [IntKind.wrap_u64]; omega
      have hYI : (T : Int) % 2305843009213693951 = (Y : Int) := by omega
      have hQI : (B : Int) / 2 ^ m = (Q : Int) := by rw [← hQ]; simp
      have hQl : Q < 18446744073709551616 := by rw [← hQ]; exact Nat.lt_of_le_of_lt (Nat.div_le_self _ _) (by omega)
      have hand := and1_ Q hQl
      rcases (by omega : Q % 2 = 0 ∨ Q % 2 = 1) with hb0 | hb0
      · have hres : Y = mulN (B / 2 ^ m) A := by rw [← hY, ← hT, hX]; exact double0 A B m (by rw [hQ]; exact hb0)
        have HR := Lib.hid hres
        rw [hb0] at hand
        clear hX hT hY hQ hres hb0
        go_wp2
        go_roundw
        case rel => exact ⟨trivial, m, Y, by omega, by go_num, by rw [← hYI], HR.out⟩
        case measure => (simp [intOf] <;> omega)
      · obtain ⟨Z, hZ⟩ : ∃ Z, (Y + A) % 2305843009213693951 = Z := ⟨_, rfl⟩
        have hYl : Y < 2305843009213693951 := by omega
        obtain ⟨V, hV⟩ : ∃ V, Y + A = V := ⟨_, rfl⟩
        have hVw : IntKind.u64.wrap ((Y : Int) + (A : Int)) = (V : Int) := by rw [IntKind.wrap_u64]; omega
        have hZI : (V : Int) % 2305843009213693951 = (Z : Int) := by omega
        have hres : Z = mulN (B / 2 ^ m) A := by rw [← hZ, ← hY, ← hT, hX]; exact double1 A B m (by rw [hQ]; exact hb0)
        have HR := Lib.hid hres
        rw [hb0] at hand
        clear hX hT hY hQ hres hb0 hZ hV
        go_wp2
        go_roundw
        case rel => exact ⟨trivial, m, Z, by omega, by go_num, by rw [← hZI], HR.out⟩
        case measure => (simp [intOf] <;> omega)
set_option maxHeartbeats 1000000 in
theorem powR_any (a n : Nat) (w : World) (ha : a < 18446744073709551616) (hn : n < 18446744073709551616) :
    Calls Try.prog 13 #[.int .u64 (a : Int), .int .u64 (n : Int)] w fun e w' => e = .returned (.int .u64 (powN a n : Int)) ∧ w = w' := by
  go_enter Try.func13, Try.ntmps13
  go_wp2_with fail
  go_loopw [5, 6] (fun xv iv wr => wr = w ∧ ∃ j X : Nat, j ≤ 64 ∧ iv = .int .i64 ((j : Int) - 1) ∧ xv = .int .u64 (X : Int) ∧ X = powN a (n / 2 ^ j)) (fun _ iv _ => (intOf iv + 1).toNat)
  case atStart => exact ⟨rfl, 64, 1, by omega, rfl, rfl, by rw [Nat.div_eq_of_lt (by omega), powN_zero]⟩
  case round =>
    obtain ⟨rfl, j, X, hj, rfl, rfl, hX⟩ := hrel
    have hXl : X < 2305843009213693951 := by rw [hX]; exact powN_lt _ _
    rcases j with _ | m
    · have hXX : X = powN a n := by rw [hX, Nat.pow_zero, Nat.div_one]
      have HXX := Lib.hid hXX
      clear hX hXX
      rw [show ((0 : Nat) : Int) - 1 = -1 by decide]
      go_wp2
      go_ret
      exact ⟨by rw [HXX.out]; rfl, rfl⟩
    · rw [show ((m + 1 : Nat) : Int) - 1 = (m : Int) by omega]
      have hm0 : (0 : Int) ≤ (m : Int) := by omega
      have hmw : IntKind.u64.wrap (m : Int) = (m : Int) := by rw [IntKind.wrap_u64]; omega
      have hm63 : ¬ (63 : Int) < (m : Int) := by omega
      have hmm : min m 64 = m := by omega
      obtain ⟨Y, hY⟩ : ∃ Y, mulN X X = Y := ⟨_, rfl⟩
      obtain ⟨Q, hQ⟩ : ∃ Q, n / 2 ^ m = Q := ⟨_, rfl⟩
      have hQI : (n : Int) / 2 ^ m = (Q : Int) := by rw [← hQ]; simp
      have hQl : Q < 18446744073709551616 := by rw [← hQ]; exact Nat.lt_of_le_of_lt (Nat.div_le_self _ _) hn
      have hand := and1_ Q hQl
      have hYl : Y < 2305843009213693951 := by rw [← hY]; exact mulN_lt _ _
      have HY := Lib.hid hY
      rcases (by omega : Q % 2 = 0 ∨ Q % 2 = 1) with hb0 | hb0
      · have hres : Y = powN a (n / 2 ^ m) := by rw [← hY, hX]; exact power0 a n m (by rw [hQ]; exact hb0)
        have HR := Lib.hid hres
        rw [hb0] at hand
        clear hX hY hQ hres hb0
        go_wp2_with fail
        refine (mulR_any X X _ (by omega) (by omega)).mono ?_
        rintro e w' ⟨rfl, rfl⟩
        rw [HY.out]
        go_wp2
        go_roundw
        case rel => exact ⟨trivial, m, Y, by omega, by go_num, rfl, HR.out⟩
        case measure => (simp [intOf] <;> omega)
      · have hres : mulN Y a = powN a (n / 2 ^ m) := by rw [← hY, hX]; exact power1 a n m (by rw [hQ]; exact hb0)
        have HR := Lib.hid hres
        rw [hb0] at hand
        clear hX hY hQ hres hb0
        go_wp2_with fail
        refine (mulR_any X X _ (by omega) (by omega)).mono ?_
        rintro e w' ⟨rfl, rfl⟩
        rw [HY.out]
        go_wp2_with fail
        refine (mulR_any Y a _ (by omega) ha).mono ?_
        rintro e w' ⟨rfl, rfl⟩
        go_wp2
        go_roundw
        case rel => exact ⟨trivial, m, mulN Y a, by omega, by go_num, rfl, HR.out⟩
        case measure => (simp [intOf] <;> omega)
end Go.Proofs.Ytampadcdmildfaa
