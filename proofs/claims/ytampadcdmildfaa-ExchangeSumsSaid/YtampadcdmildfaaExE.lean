/- The laws of layer 5. -/
import Derived.Test.YtampadcdmildfaaExG
namespace Go.Proofs.Ytampadcdmildfaa
open Go.RowKit
set_option maxRecDepth 100000

theorem awake5_any (w : World) : Calls Try.prog 11 #[] w fun e w' => e = .returned (.bool true) ∧ Below w.heap.size w w' := by
  have m1 : mulN 1152921504606846976 2 = 1 := by decide
  have m2 : powN 37 1 = 37 := by decide
  have m3 : powN 2 61 = 1 := by decide
  have c0 := fun w => shrE_no 5 1 w (.inl (by decide))
  have c1 := fun w => mulE_any 1152921504606846976 2 w (by decide) (by decide)
  have c2 := fun w => powE_any 37 1 w (by decide) (by decide)
  have c3 := fun w => powE_any 2 61 w (by decide) (by decide)
  simp only [m1] at c1
  simp only [m2] at c2
  simp only [m3] at c3
  have C0 := Lib.hid c0
  have C1 := Lib.hid c1
  have C2 := Lib.hid c2
  have C3 := Lib.hid c3
  clear c0 c1 c2 c3 m1 m2 m3
  have HB0 := Lib.hid (Below.refl w.heap.size w)
  go_enter Try.func11, Try.ntmps11
  go_wp2_with fail
  refine (C0.out _).mono ?_
  rintro e w' ⟨rfl, rfl⟩
  go_wp2_with fail
  refine (C1.out _).mono ?_
  rintro e w1 ⟨rfl, hb⟩
  have HB1 := Lib.hid (HB0.out.trans (hb.mono HB0.out.size))
  clear hb
  go_wp2_with fail
  refine (C2.out _).mono ?_
  rintro e w2 ⟨rfl, hb⟩
  have HB2 := Lib.hid (HB1.out.trans (hb.mono HB1.out.size))
  clear hb
  go_wp2_with fail
  refine (C3.out _).mono ?_
  rintro e w3 ⟨rfl, hb⟩
  have HB3 := Lib.hid (HB2.out.trans (hb.mono HB2.out.size))
  clear hb
  go_wp2
  go_ret
  exact ⟨rfl, HB3.out⟩
set_option maxHeartbeats 1000000 in
theorem mul_law0 (a b c : Nat) (w : World) (ha : a < 18446744073709551616) (hb : b < 18446744073709551616) (hc : c % 6 = 0) :
    Calls Try.prog 3 #[.int .u64 (a : Int), .int .u64 (b : Int), .int .u8 (c : Int)] w fun e w' => e = .returned (.bool true) ∧ Below w.heap.size w w' := by
  have hk : (c : Int) % 6 = 0 := by omega
  clear hc
  have HB0 := Lib.hid ((Below.refl w.heap.size w).alloc (Nat.le_refl _) (.cells #[.int .u64 0, .int .u64 1, .int .u64 2305843009213693950, .int .u64 2305843009213693951, .int .u64 2305843009213693952, .int .u64 18446744073709551615] 22))
  go_enter Try.func3, Try.ntmps3
  go_wp2_with fail
  refine (mulE_any a b _ ha hb).mono ?_
  rintro e w1 ⟨rfl, hb⟩
  have HB1 := Lib.hid (HB0.out.trans (hb.mono HB0.out.size))
  clear hb
  go_wp2_with fail
  refine (mulR_any a b _ ha hb).mono ?_
  rintro e w' ⟨rfl, rfl⟩
  go_wp2_with fail
  refine (mulE_any a 0 _ ha (by decide)).mono ?_
  rintro e w2 ⟨rfl, hb⟩
  have HB2 := Lib.hid (HB1.out.trans (hb.mono HB1.out.size))
  clear hb
  go_wp2_with fail
  refine (mulR_any a 0 _ ha (by decide)).mono ?_
  rintro e w' ⟨rfl, rfl⟩
  go_wp2_with fail
  refine (mulE_any 0 0 _ (by decide) (by decide)).mono ?_
  rintro e w3 ⟨rfl, hb⟩
  have HB3 := Lib.hid (HB2.out.trans (hb.mono HB2.out.size))
  clear hb
  go_wp2_with fail
  refine (mulR_any 0 0 _ (by decide) (by decide)).mono ?_
  rintro e w' ⟨rfl, rfl⟩
  go_wp2_with fail
  refine (awake5_any _).mono ?_
  rintro e w4 ⟨rfl, hb⟩
  have HB4 := Lib.hid (HB3.out.trans (hb.mono HB3.out.size))
  clear hb
  go_wp2
  go_ret
  exact ⟨rfl, HB4.out⟩
set_option maxHeartbeats 1000000 in
theorem mul_law1 (a b c : Nat) (w : World) (ha : a < 18446744073709551616) (hb : b < 18446744073709551616) (hc : c % 6 = 1) :
    Calls Try.prog 3 #[.int .u64 (a : Int), .int .u64 (b : Int), .int .u8 (c : Int)] w fun e w' => e = .returned (.bool true) ∧ Below w.heap.size w w' := by
  have hk : (c : Int) % 6 = 1 := by omega
  clear hc
  have HB0 := Lib.hid ((Below.refl w.heap.size w).alloc (Nat.le_refl _) (.cells #[.int .u64 0, .int .u64 1, .int .u64 2305843009213693950, .int .u64 2305843009213693951, .int .u64 2305843009213693952, .int .u64 18446744073709551615] 22))
  go_enter Try.func3, Try.ntmps3
  go_wp2_with fail
  refine (mulE_any a b _ ha hb).mono ?_
  rintro e w1 ⟨rfl, hb⟩
  have HB1 := Lib.hid (HB0.out.trans (hb.mono HB0.out.size))
  clear hb
  go_wp2_with fail
  refine (mulR_any a b _ ha hb).mono ?_
  rintro e w' ⟨rfl, rfl⟩
  go_wp2_with fail
  refine (mulE_any a 1 _ ha (by decide)).mono ?_
  rintro e w2 ⟨rfl, hb⟩
  have HB2 := Lib.hid (HB1.out.trans (hb.mono HB1.out.size))
  clear hb
  go_wp2_with fail
  refine (mulR_any a 1 _ ha (by decide)).mono ?_
  rintro e w' ⟨rfl, rfl⟩
  go_wp2_with fail
  refine (mulE_any 1 1 _ (by decide) (by decide)).mono ?_
  rintro e w3 ⟨rfl, hb⟩
  have HB3 := Lib.hid (HB2.out.trans (hb.mono HB2.out.size))
  clear hb
  go_wp2_with fail
  refine (mulR_any 1 1 _ (by decide) (by decide)).mono ?_
  rintro e w' ⟨rfl, rfl⟩
  go_wp2_with fail
  refine (awake5_any _).mono ?_
  rintro e w4 ⟨rfl, hb⟩
  have HB4 := Lib.hid (HB3.out.trans (hb.mono HB3.out.size))
  clear hb
  go_wp2
  go_ret
  exact ⟨rfl, HB4.out⟩
set_option maxHeartbeats 1000000 in
theorem mul_law2 (a b c : Nat) (w : World) (ha : a < 18446744073709551616) (hb : b < 18446744073709551616) (hc : c % 6 = 2) :
    Calls Try.prog 3 #[.int .u64 (a : Int), .int .u64 (b : Int), .int .u8 (c : Int)] w fun e w' => e = .returned (.bool true) ∧ Below w.heap.size w w' := by
  have hk : (c : Int) % 6 = 2 := by omega
  clear hc
  have HB0 := Lib.hid ((Below.refl w.heap.size w).alloc (Nat.le_refl _) (.cells #[.int .u64 0, .int .u64 1, .int .u64 2305843009213693950, .int .u64 2305843009213693951, .int .u64 2305843009213693952, .int .u64 18446744073709551615] 22))
  go_enter Try.func3, Try.ntmps3
  go_wp2_with fail
  refine (mulE_any a b _ ha hb).mono ?_
  rintro e w1 ⟨rfl, hb⟩
  have HB1 := Lib.hid (HB0.out.trans (hb.mono HB0.out.size))
  clear hb
  go_wp2_with fail
  refine (mulR_any a b _ ha hb).mono ?_
  rintro e w' ⟨rfl, rfl⟩
  go_wp2_with fail
  refine (mulE_any a 2305843009213693950 _ ha (by decide)).mono ?_
  rintro e w2 ⟨rfl, hb⟩
  have HB2 := Lib.hid (HB1.out.trans (hb.mono HB1.out.size))
  clear hb
  go_wp2_with fail
  refine (mulR_any a 2305843009213693950 _ ha (by decide)).mono ?_
  rintro e w' ⟨rfl, rfl⟩
  go_wp2_with fail
  refine (mulE_any 2305843009213693950 2305843009213693950 _ (by decide) (by decide)).mono ?_
  rintro e w3 ⟨rfl, hb⟩
  have HB3 := Lib.hid (HB2.out.trans (hb.mono HB2.out.size))
  clear hb
  go_wp2_with fail
  refine (mulR_any 2305843009213693950 2305843009213693950 _ (by decide) (by decide)).mono ?_
  rintro e w' ⟨rfl, rfl⟩
  go_wp2_with fail
  refine (awake5_any _).mono ?_
  rintro e w4 ⟨rfl, hb⟩
  have HB4 := Lib.hid (HB3.out.trans (hb.mono HB3.out.size))
  clear hb
  go_wp2
  go_ret
  exact ⟨rfl, HB4.out⟩
set_option maxHeartbeats 1000000 in
theorem mul_law3 (a b c : Nat) (w : World) (ha : a < 18446744073709551616) (hb : b < 18446744073709551616) (hc : c % 6 = 3) :
    Calls Try.prog 3 #[.int .u64 (a : Int), .int .u64 (b : Int), .int .u8 (c : Int)] w fun e w' => e = .returned (.bool true) ∧ Below w.heap.size w w' := by
  have hk : (c : Int) % 6 = 3 := by omega
  clear hc
  have HB0 := Lib.hid ((Below.refl w.heap.size w).alloc (Nat.le_refl _) (.cells #[.int .u64 0, .int .u64 1, .int .u64 2305843009213693950, .int .u64 2305843009213693951, .int .u64 2305843009213693952, .int .u64 18446744073709551615] 22))
  go_enter Try.func3, Try.ntmps3
  go_wp2_with fail
  refine (mulE_any a b _ ha hb).mono ?_
  rintro e w1 ⟨rfl, hb⟩
  have HB1 := Lib.hid (HB0.out.trans (hb.mono HB0.out.size))
  clear hb
  go_wp2_with fail
  refine (mulR_any a b _ ha hb).mono ?_
  rintro e w' ⟨rfl, rfl⟩
  go_wp2_with fail
  refine (mulE_any a 2305843009213693951 _ ha (by decide)).mono ?_
  rintro e w2 ⟨rfl, hb⟩
  have HB2 := Lib.hid (HB1.out.trans (hb.mono HB1.out.size))
  clear hb
  go_wp2_with fail
  refine (mulR_any a 2305843009213693951 _ ha (by decide)).mono ?_
  rintro e w' ⟨rfl, rfl⟩
  go_wp2_with fail
  refine (mulE_any 2305843009213693951 2305843009213693951 _ (by decide) (by decide)).mono ?_
  rintro e w3 ⟨rfl, hb⟩
  have HB3 := Lib.hid (HB2.out.trans (hb.mono HB2.out.size))
  clear hb
  go_wp2_with fail
  refine (mulR_any 2305843009213693951 2305843009213693951 _ (by decide) (by decide)).mono ?_
  rintro e w' ⟨rfl, rfl⟩
  go_wp2_with fail
  refine (awake5_any _).mono ?_
  rintro e w4 ⟨rfl, hb⟩
  have HB4 := Lib.hid (HB3.out.trans (hb.mono HB3.out.size))
  clear hb
  go_wp2
  go_ret
  exact ⟨rfl, HB4.out⟩
set_option maxHeartbeats 1000000 in
theorem mul_law4 (a b c : Nat) (w : World) (ha : a < 18446744073709551616) (hb : b < 18446744073709551616) (hc : c % 6 = 4) :
    Calls Try.prog 3 #[.int .u64 (a : Int), .int .u64 (b : Int), .int .u8 (c : Int)] w fun e w' => e = .returned (.bool true) ∧ Below w.heap.size w w' := by
  have hk : (c : Int) % 6 = 4 := by omega
  clear hc
  have HB0 := Lib.hid ((Below.refl w.heap.size w).alloc (Nat.le_refl _) (.cells #[.int .u64 0, .int .u64 1, .int .u64 2305843009213693950, .int .u64 2305843009213693951, .int .u64 2305843009213693952, .int .u64 18446744073709551615] 22))
  go_enter Try.func3, Try.ntmps3
  go_wp2_with fail
  refine (mulE_any a b _ ha hb).mono ?_
  rintro e w1 ⟨rfl, hb⟩
  have HB1 := Lib.hid (HB0.out.trans (hb.mono HB0.out.size))
  clear hb
  go_wp2_with fail
  refine (mulR_any a b _ ha hb).mono ?_
  rintro e w' ⟨rfl, rfl⟩
  go_wp2_with fail
  refine (mulE_any a 2305843009213693952 _ ha (by decide)).mono ?_
  rintro e w2 ⟨rfl, hb⟩
  have HB2 := Lib.hid (HB1.out.trans (hb.mono HB1.out.size))
  clear hb
  go_wp2_with fail
  refine (mulR_any a 2305843009213693952 _ ha (by decide)).mono ?_
  rintro e w' ⟨rfl, rfl⟩
  go_wp2_with fail
  refine (mulE_any 2305843009213693952 2305843009213693952 _ (by decide) (by decide)).mono ?_
  rintro e w3 ⟨rfl, hb⟩
  have HB3 := Lib.hid (HB2.out.trans (hb.mono HB2.out.size))
  clear hb
  go_wp2_with fail
  refine (mulR_any 2305843009213693952 2305843009213693952 _ (by decide) (by decide)).mono ?_
  rintro e w' ⟨rfl, rfl⟩
  go_wp2_with fail
  refine (awake5_any _).mono ?_
  rintro e w4 ⟨rfl, hb⟩
  have HB4 := Lib.hid (HB3.out.trans (hb.mono HB3.out.size))
  clear hb
  go_wp2
  go_ret
  exact ⟨rfl, HB4.out⟩
set_option maxHeartbeats 1000000 in
theorem mul_law5 (a b c : Nat) (w : World) (ha : a < 18446744073709551616) (hb : b < 18446744073709551616) (hc : c % 6 = 5) :
    Calls Try.prog 3 #[.int .u64 (a : Int), .int .u64 (b : Int), .int .u8 (c : Int)] w fun e w' => e = .returned (.bool true) ∧ Below w.heap.size w w' := by
  have hk : (c : Int) % 6 = 5 := by omega
  clear hc
  have HB0 := Lib.hid ((Below.refl w.heap.size w).alloc (Nat.le_refl _) (.cells #[.int .u64 0, .int .u64 1, .int .u64 2305843009213693950, .int .u64 2305843009213693951, .int .u64 2305843009213693952, .int .u64 18446744073709551615] 22))
  go_enter Try.func3, Try.ntmps3
  go_wp2_with fail
  refine (mulE_any a b _ ha hb).mono ?_
  rintro e w1 ⟨rfl, hb⟩
  have HB1 := Lib.hid (HB0.out.trans (hb.mono HB0.out.size))
  clear hb
  go_wp2_with fail
  refine (mulR_any a b _ ha hb).mono ?_
  rintro e w' ⟨rfl, rfl⟩
  go_wp2_with fail
  refine (mulE_any a 18446744073709551615 _ ha (by decide)).mono ?_
  rintro e w2 ⟨rfl, hb⟩
  have HB2 := Lib.hid (HB1.out.trans (hb.mono HB1.out.size))
  clear hb
  go_wp2_with fail
  refine (mulR_any a 18446744073709551615 _ ha (by decide)).mono ?_
  rintro e w' ⟨rfl, rfl⟩
  go_wp2_with fail
  refine (mulE_any 18446744073709551615 18446744073709551615 _ (by decide) (by decide)).mono ?_
  rintro e w3 ⟨rfl, hb⟩
  have HB3 := Lib.hid (HB2.out.trans (hb.mono HB2.out.size))
  clear hb
  go_wp2_with fail
  refine (mulR_any 18446744073709551615 18446744073709551615 _ (by decide) (by decide)).mono ?_
  rintro e w' ⟨rfl, rfl⟩
  go_wp2_with fail
  refine (awake5_any _).mono ?_
  rintro e w4 ⟨rfl, hb⟩
  have HB4 := Lib.hid (HB3.out.trans (hb.mono HB3.out.size))
  clear hb
  go_wp2
  go_ret
  exact ⟨rfl, HB4.out⟩
set_option maxHeartbeats 1000000 in
theorem pow_law (a n k : Nat) (w : World) (ha : a < 18446744073709551616) (hn : n < 18446744073709551616) :
    Calls Try.prog 4 #[.int .u64 (a : Int), .int .u64 (n : Int), .int .u8 (k : Int)] w fun e w' => e = .returned (.bool true) ∧ Below w.heap.size w w' := by
  obtain ⟨q, hq⟩ : ∃ q, k % 5 = q := ⟨_, rfl⟩
  have hkI : (k : Int) % 5 = (q : Int) := by omega
  have hqw : IntKind.u64.wrap (q : Int) = (q : Int) := by rw [IntKind.wrap_u64]; omega
  have hql : q < 5 := by omega
  clear hq
  have HB0 := Lib.hid (Below.refl w.heap.size w)
  go_enter Try.func4, Try.ntmps4
  go_wp2_with fail
  refine (powE_any a n _ ha hn).mono ?_
  rintro e w1 ⟨rfl, hb⟩
  have HB1 := Lib.hid (HB0.out.trans (hb.mono HB0.out.size))
  clear hb
  go_wp2_with fail
  refine (powR_any a n _ ha hn).mono ?_
  rintro e w' ⟨rfl, rfl⟩
  go_wp2_with fail
  refine (powE_any a q _ ha (by omega)).mono ?_
  rintro e w2 ⟨rfl, hb⟩
  have HB2 := Lib.hid (HB1.out.trans (hb.mono HB1.out.size))
  clear hb
  go_wp2_with fail
  refine (powR_any a q _ ha (by omega)).mono ?_
  rintro e w' ⟨rfl, rfl⟩
  go_wp2_with fail
  refine (awake5_any _).mono ?_
  rintro e w3 ⟨rfl, hb⟩
  have HB3 := Lib.hid (HB2.out.trans (hb.mono HB2.out.size))
  clear hb
  go_wp2
  go_ret
  exact ⟨rfl, HB3.out⟩
set_option maxHeartbeats 2000000 in
theorem field_law (a b c : Nat) (w : World) :
    Calls Try.prog 5 #[.int .u64 (a : Int), .int .u64 (b : Int), .int .u64 (c : Int)] w fun e w' => e = .returned (.bool true) ∧ Below w.heap.size w w' := by
  obtain ⟨A, hA⟩ : ∃ A, a % 2305843009213693951 = A := ⟨_, rfl⟩
  obtain ⟨B, hB⟩ : ∃ B, b % 2305843009213693951 = B := ⟨_, rfl⟩
  obtain ⟨C, hC⟩ : ∃ C, c % 2305843009213693951 = C := ⟨_, rfl⟩
  have hAl : A < 2305843009213693951 := by omega
  have hBl : B < 2305843009213693951 := by omega
  have hCl : C < 2305843009213693951 := by omega
  have hAI : (a : Int) % 2305843009213693951 = (A : Int) := by omega
  have hBI : (b : Int) % 2305843009213693951 = (B : Int) := by omega
  have hCI : (c : Int) % 2305843009213693951 = (C : Int) := by omega
  obtain ⟨S, hS⟩ : ∃ S, B + C = S := ⟨_, rfl⟩
  obtain ⟨T, hT⟩ : ∃ T, S % 2305843009213693951 = T := ⟨_, rfl⟩
  have hSw : IntKind.u64.wrap ((B : Int) + (C : Int)) = (S : Int) := by rw [IntKind.wrap_u64]; omega
  have hSI : (B : Int) + (C : Int) = (S : Int) := by omega
  have hTI : (S : Int) % 2305843009213693951 = (T : Int) := by omega
  have hTl : T < 2305843009213693951 := by omega
  obtain ⟨X, hX⟩ : ∃ X, mulN A B = X := ⟨_, rfl⟩
  obtain ⟨Y, hY⟩ : ∃ Y, mulN A C = Y := ⟨_, rfl⟩
  obtain ⟨W, hW⟩ : ∃ W, mulN B C = W := ⟨_, rfl⟩
  obtain ⟨Z, hZ⟩ : ∃ Z, mulN X C = Z := ⟨_, rfl⟩
  have hXl : X < 2305843009213693951 := by rw [← hX]; exact mulN_lt _ _
  have hYl : Y < 2305843009213693951 := by rw [← hY]; exact mulN_lt _ _
  have hWl : W < 2305843009213693951 := by rw [← hW]; exact mulN_lt _ _
  obtain ⟨U, hU⟩ : ∃ U, X + Y = U := ⟨_, rfl⟩
  obtain ⟨V, hV⟩ : ∃ V, U % 2305843009213693951 = V := ⟨_, rfl⟩
  have hUw : IntKind.u64.wrap ((X : Int) + (Y : Int)) = (U : Int) := by rw [IntKind.wrap_u64]; omega
  have hUI : (X : Int) + (Y : Int) = (U : Int) := by omega
  have hVI : (U : Int) % 2305843009213693951 = (V : Int) := by omega
  have HX := Lib.hid hX
  have HX2 : Hid (mulN B A = X) := Lib.hid (by rw [mulN_comm]; exact hX)
  have HY := Lib.hid hY
  have HW := Lib.hid hW
  have HZ := Lib.hid hZ
  have HZ2 : Hid (mulN A W = Z) := Lib.hid (by rw [← hW, ← hZ, ← hX, mulN_assoc])
  have HV : Hid (mulN A T = V) := Lib.hid (by rw [← hT, ← hS, mulN_add, ← hV, ← hU, ← hX, ← hY])
  have HO : Hid (mulN A 1 = A) := Lib.hid (mulN_one A hAl)
  clear hA hB hC hS hT hX hY hW hZ hU hV
  have HB0 := Lib.hid (Below.refl w.heap.size w)
  go_enter Try.func5, Try.ntmps5
  go_wp2_with fail
  refine (mulE_any A B _ (by omega) (by omega)).mono ?_
  rintro e w1 ⟨rfl, hb⟩
  have HB1 := Lib.hid (HB0.out.trans (hb.mono HB0.out.size))
  clear hb
  rw [HX.out]
  go_wp2_with fail
  refine (mulE_any B A _ (by omega) (by omega)).mono ?_
  rintro e w2 ⟨rfl, hb⟩
  have HB2 := Lib.hid (HB1.out.trans (hb.mono HB1.out.size))
  clear hb
  rw [HX2.out]
  go_wp2_with fail
  refine (mulE_any A B _ (by omega) (by omega)).mono ?_
  rintro e w3 ⟨rfl, hb⟩
  have HB3 := Lib.hid (HB2.out.trans (hb.mono HB2.out.size))
  clear hb
  rw [HX.out]
  go_wp2_with fail
  refine (mulE_any X C _ (by omega) (by omega)).mono ?_
  rintro e w4 ⟨rfl, hb⟩
  have HB4 := Lib.hid (HB3.out.trans (hb.mono HB3.out.size))
  clear hb
  rw [HZ.out]
  go_wp2_with fail
  refine (mulE_any B C _ (by omega) (by omega)).mono ?_
  rintro e w5 ⟨rfl, hb⟩
  have HB5 := Lib.hid (HB4.out.trans (hb.mono HB4.out.size))
  clear hb
  rw [HW.out]
  go_wp2_with fail
  refine (mulE_any A W _ (by omega) (by omega)).mono ?_
  rintro e w6 ⟨rfl, hb⟩
  have HB6 := Lib.hid (HB5.out.trans (hb.mono HB5.out.size))
  clear hb
  rw [HZ2.out]
  go_wp2_with fail
  refine (mulE_any A T _ (by omega) (by omega)).mono ?_
  rintro e w7 ⟨rfl, hb⟩
  have HB7 := Lib.hid (HB6.out.trans (hb.mono HB6.out.size))
  clear hb
  rw [HV.out]
  go_wp2_with fail
  refine (mulE_any A B _ (by omega) (by omega)).mono ?_
  rintro e w8 ⟨rfl, hb⟩
  have HB8 := Lib.hid (HB7.out.trans (hb.mono HB7.out.size))
  clear hb
  rw [HX.out]
  go_wp2_with fail
  refine (mulE_any A C _ (by omega) (by omega)).mono ?_
  rintro e w9 ⟨rfl, hb⟩
  have HB9 := Lib.hid (HB8.out.trans (hb.mono HB8.out.size))
  clear hb
  rw [HY.out]
  go_wp2_with fail
  refine (mulE_any A 1 _ (by omega) (by omega)).mono ?_
  rintro e w10 ⟨rfl, hb⟩
  have HB10 := Lib.hid (HB9.out.trans (hb.mono HB9.out.size))
  clear hb
  rw [HO.out]
  go_wp2_with fail
  refine (awake5_any _).mono ?_
  rintro e w11 ⟨rfl, hb⟩
  have HB11 := Lib.hid (HB10.out.trans (hb.mono HB10.out.size))
  clear hb
  go_wp2
  go_ret
  exact ⟨rfl, HB11.out⟩
set_option maxHeartbeats 2000000 in
theorem sums_zero (a m n : Nat) (w : World) (ha : a < 18446744073709551616) (hm : m < 18446744073709551616) (hn : n < 18446744073709551616) (h0 : a % 2305843009213693951 = 0) :
    Calls Try.prog 6 #[.int .u64 (a : Int), .int .u64 (m : Int), .int .u64 (n : Int)] w fun e w' => e = .returned (.bool true) ∧ Below w.heap.size w w' := by
  obtain ⟨M, hM⟩ : ∃ M, m / 2 = M := ⟨_, rfl⟩
  obtain ⟨N, hN⟩ : ∃ N, n / 2 = N := ⟨_, rfl⟩
  obtain ⟨S, hS⟩ : ∃ S, M + N = S := ⟨_, rfl⟩
  have hMI : (m : Int) / 2 = (M : Int) := by omega
  have hNI : (n : Int) / 2 = (N : Int) := by omega
  have hSw : IntKind.u64.wrap ((M : Int) + (N : Int)) = (S : Int) := by rw [IntKind.wrap_u64]; omega
  have hSI : (M : Int) + (N : Int) = (S : Int) := by omega
  have hMl : M < 18446744073709551616 := by omega
  have hNl : N < 18446744073709551616 := by omega
  have hSl : S < 18446744073709551616 := by omega
  have h0I : (a : Int) % 2305843009213693951 = 0 := by omega
  obtain ⟨Y, hY⟩ : ∃ Y, powN a M = Y := ⟨_, rfl⟩
  obtain ⟨Z, hZ⟩ : ∃ Z, powN a N = Z := ⟨_, rfl⟩
  obtain ⟨X, hX⟩ : ∃ X, powN a S = X := ⟨_, rfl⟩
  have hYl : Y < 2305843009213693951 := by rw [← hY]; exact powN_lt _ _
  have hZl : Z < 2305843009213693951 := by rw [← hZ]; exact powN_lt _ _
  obtain ⟨I, hI⟩ : ∃ I, powN a 2305843009213693949 = I := ⟨_, rfl⟩
  have hIl : I < 2305843009213693951 := by rw [← hI]; exact powN_lt _ _
  have HY := Lib.hid hY
  have HZ := Lib.hid hZ
  have HX := Lib.hid hX
  have HM : Hid (mulN Y Z = X) := Lib.hid (by rw [← hY, ← hZ, ← hX, ← hS, powN_add])
  have HI := Lib.hid hI
  have HO : Hid (mulN a I = 0) := Lib.hid (by rw [← hI, powN_inv a 2305843009213693949 (by decide)]; simp [h0])
  clear hM hN hS hX hY hZ hI h0
  have HB0 := Lib.hid (Below.refl w.heap.size w)
  go_enter Try.func6, Try.ntmps6
  go_wp2_with fail
  refine (powE_any a S _ ha hSl).mono ?_
  rintro e w1 ⟨rfl, hb⟩
  have HB1 := Lib.hid (HB0.out.trans (hb.mono HB0.out.size))
  clear hb
  rw [HX.out]
  go_wp2_with fail
  refine (powE_any a M _ ha hMl).mono ?_
  rintro e w2 ⟨rfl, hb⟩
  have HB2 := Lib.hid (HB1.out.trans (hb.mono HB1.out.size))
  clear hb
  rw [HY.out]
  go_wp2_with fail
  refine (powE_any a N _ ha hNl).mono ?_
  rintro e w3 ⟨rfl, hb⟩
  have HB3 := Lib.hid (HB2.out.trans (hb.mono HB2.out.size))
  clear hb
  rw [HZ.out]
  go_wp2_with fail
  refine (mulE_any Y Z _ (by omega) (by omega)).mono ?_
  rintro e w4 ⟨rfl, hb⟩
  have HB4 := Lib.hid (HB3.out.trans (hb.mono HB3.out.size))
  clear hb
  rw [HM.out]
  go_wp2_with fail
  refine (powE_any a 2305843009213693949 _ ha (by decide)).mono ?_
  rintro e w5 ⟨rfl, hb⟩
  have HB5 := Lib.hid (HB4.out.trans (hb.mono HB4.out.size))
  clear hb
  rw [HI.out]
  go_wp2_with fail
  refine (mulE_any a I _ ha (by omega)).mono ?_
  rintro e w6 ⟨rfl, hb⟩
  have HB6 := Lib.hid (HB5.out.trans (hb.mono HB5.out.size))
  clear hb
  rw [HO.out]
  go_wp2_with fail
  refine (awake5_any _).mono ?_
  rintro e w7 ⟨rfl, hb⟩
  have HB7 := Lib.hid (HB6.out.trans (hb.mono HB6.out.size))
  clear hb
  go_wp2
  go_ret
  exact ⟨rfl, HB7.out⟩
set_option maxHeartbeats 2000000 in
theorem sums_one (a m n : Nat) (w : World) (ha : a < 18446744073709551616) (hm : m < 18446744073709551616) (hn : n < 18446744073709551616) (h0 : ¬ a % 2305843009213693951 = 0) :
    Calls Try.prog 6 #[.int .u64 (a : Int), .int .u64 (m : Int), .int .u64 (n : Int)] w fun e w' => e = .returned (.bool true) ∧ Below w.heap.size w w' := by
  obtain ⟨M, hM⟩ : ∃ M, m / 2 = M := ⟨_, rfl⟩
  obtain ⟨N, hN⟩ : ∃ N, n / 2 = N := ⟨_, rfl⟩
  obtain ⟨S, hS⟩ : ∃ S, M + N = S := ⟨_, rfl⟩
  have hMI : (m : Int) / 2 = (M : Int) := by omega
  have hNI : (n : Int) / 2 = (N : Int) := by omega
  have hSw : IntKind.u64.wrap ((M : Int) + (N : Int)) = (S : Int) := by rw [IntKind.wrap_u64]; omega
  have hSI : (M : Int) + (N : Int) = (S : Int) := by omega
  have hMl : M < 18446744073709551616 := by omega
  have hNl : N < 18446744073709551616 := by omega
  have hSl : S < 18446744073709551616 := by omega
  have h0I : ¬ (a : Int) % 2305843009213693951 = 0 := by omega
  obtain ⟨Y, hY⟩ : ∃ Y, powN a M = Y := ⟨_, rfl⟩
  obtain ⟨Z, hZ⟩ : ∃ Z, powN a N = Z := ⟨_, rfl⟩
  obtain ⟨X, hX⟩ : ∃ X, powN a S = X := ⟨_, rfl⟩
  have hYl : Y < 2305843009213693951 := by rw [← hY]; exact powN_lt _ _
  have hZl : Z < 2305843009213693951 := by rw [← hZ]; exact powN_lt _ _
  obtain ⟨I, hI⟩ : ∃ I, powN a 2305843009213693949 = I := ⟨_, rfl⟩
  have hIl : I < 2305843009213693951 := by rw [← hI]; exact powN_lt _ _
  have HY := Lib.hid hY
  have HZ := Lib.hid hZ
  have HX := Lib.hid hX
  have HM : Hid (mulN Y Z = X) := Lib.hid (by rw [← hY, ← hZ, ← hX, ← hS, powN_add])
  have HI := Lib.hid hI
  have HO : Hid (mulN a I = 1) := Lib.hid (by rw [← hI, powN_inv a 2305843009213693949 (by decide)]; simp [h0])
  clear hM hN hS hX hY hZ hI h0
  have HB0 := Lib.hid (Below.refl w.heap.size w)
  go_enter Try.func6, Try.ntmps6
  go_wp2_with fail
  refine (powE_any a S _ ha hSl).mono ?_
  rintro e w1 ⟨rfl, hb⟩
  have HB1 := Lib.hid (HB0.out.trans (hb.mono HB0.out.size))
  clear hb
  rw [HX.out]
  go_wp2_with fail
  refine (powE_any a M _ ha hMl).mono ?_
  rintro e w2 ⟨rfl, hb⟩
  have HB2 := Lib.hid (HB1.out.trans (hb.mono HB1.out.size))
  clear hb
  rw [HY.out]
  go_wp2_with fail
  refine (powE_any a N _ ha hNl).mono ?_
  rintro e w3 ⟨rfl, hb⟩
  have HB3 := Lib.hid (HB2.out.trans (hb.mono HB2.out.size))
  clear hb
  rw [HZ.out]
  go_wp2_with fail
  refine (mulE_any Y Z _ (by omega) (by omega)).mono ?_
  rintro e w4 ⟨rfl, hb⟩
  have HB4 := Lib.hid (HB3.out.trans (hb.mono HB3.out.size))
  clear hb
  rw [HM.out]
  go_wp2_with fail
  refine (powE_any a 2305843009213693949 _ ha (by decide)).mono ?_
  rintro e w5 ⟨rfl, hb⟩
  have HB5 := Lib.hid (HB4.out.trans (hb.mono HB4.out.size))
  clear hb
  rw [HI.out]
  go_wp2_with fail
  refine (mulE_any a I _ ha (by omega)).mono ?_
  rintro e w6 ⟨rfl, hb⟩
  have HB6 := Lib.hid (HB5.out.trans (hb.mono HB5.out.size))
  clear hb
  rw [HO.out]
  go_wp2_with fail
  refine (awake5_any _).mono ?_
  rintro e w7 ⟨rfl, hb⟩
  have HB7 := Lib.hid (HB6.out.trans (hb.mono HB6.out.size))
  clear hb
  go_wp2
  go_ret
  exact ⟨rfl, HB7.out⟩
/-- what Shared answers -/
def shV (s p : Nat) : Int := if 2 ≤ p ∧ p ≤ 2305843009213693949 then val (shrW s p) else 0
def shE (p : Nat) : Int := if 2 ≤ p ∧ p ≤ 2305843009213693949 then 0 else 9
theorem shrE_all (s p : Nat) (w : World) (hs : s < 18446744073709551616) : Calls Try.prog 14 #[.int .u64 (s : Int), .int .u64 (p : Int)] w fun e w' => e = .returned (.tuple #[.int .u64 (shV s p), .int .i64 (shE p)]) ∧ Below w.heap.size w w' := by
  by_cases h : 2 ≤ p ∧ p ≤ 2305843009213693949
  · unfold shV shE
    rw [if_pos h, if_pos h]
    exact shrE_ok s p w hs h.1 h.2
  · unfold shV shE
    rw [if_neg h, if_neg h]
    refine (shrE_no s p w (by omega)).mono ?_
    rintro e w' ⟨rfl, rfl⟩
    exact ⟨rfl, Below.refl _ _⟩
theorem shrR_all (s p : Nat) (w : World) (hs : s < 18446744073709551616) : Calls Try.prog 15 #[.int .u64 (s : Int), .int .u64 (p : Int)] w fun e w' => e = .returned (.tuple #[.int .u64 (shV s p), .int .i64 (shE p)]) ∧ Below w.heap.size w w' := by
  by_cases h : 2 ≤ p ∧ p ≤ 2305843009213693949
  · unfold shV shE
    rw [if_pos h, if_pos h]
    exact shrR_ok s p w hs h.1 h.2
  · unfold shV shE
    rw [if_neg h, if_neg h]
    refine (shrR_no s p w (by omega)).mono ?_
    rintro e w' ⟨rfl, rfl⟩
    exact ⟨rfl, Below.refl _ _⟩
set_option maxHeartbeats 1000000 in
theorem shared_law0 (s p c : Nat) (w : World) (hs : s < 18446744073709551616) (hc : c % 7 = 0) :
    Calls Try.prog 7 #[.int .u64 (s : Int), .int .u64 (p : Int), .int .u8 (c : Int)] w fun e w' => e = .returned (.bool true) ∧ Below w.heap.size w w' := by
  have hk : (c : Int) % 7 = 0 := by omega
  clear hc
  have HB0 := Lib.hid ((Below.refl w.heap.size w).alloc (Nat.le_refl _) (.cells #[.int .u64 0, .int .u64 1, .int .u64 2, .int .u64 2305843009213693949, .int .u64 2305843009213693950, .int .u64 2305843009213693951, .int .u64 18446744073709551615] 22))
  have c1 := fun w => shrE_all s p w hs
  have c2 := fun w => shrR_all s p w hs
  have c3 := fun w => shrE_all s 0 w hs
  have c4 := fun w => shrR_all s 0 w hs
  have c5 := fun w => pubE_any s w hs
  have c6 := fun w => pubR_any s w hs
  generalize shV s p = x1 at *
  generalize shE p = x2 at *
  generalize shV s 0 = x3 at *
  generalize shE 0 = x4 at *
  generalize pubN s = x5 at *
  have C1 := Lib.hid c1
  have C2 := Lib.hid c2
  have C3 := Lib.hid c3
  have C4 := Lib.hid c4
  have C5 := Lib.hid c5
  have C6 := Lib.hid c6
  clear c1 c2 c3 c4 c5 c6
  go_enter Try.func7, Try.ntmps7
  go_wp2_with fail
  refine (C1.out _).mono ?_
  rintro e w1 ⟨rfl, hb⟩
  have HB1 := Lib.hid (HB0.out.trans (hb.mono HB0.out.size))
  clear hb
  go_wp2_with fail
  refine (C2.out _).mono ?_
  rintro e w2 ⟨rfl, hb⟩
  have HB2 := Lib.hid (HB1.out.trans (hb.mono HB1.out.size))
  clear hb
  go_wp2_with fail
  refine (C3.out _).mono ?_
  rintro e w3 ⟨rfl, hb⟩
  have HB3 := Lib.hid (HB2.out.trans (hb.mono HB2.out.size))
  clear hb
  go_wp2_with fail
  refine (C4.out _).mono ?_
  rintro e w4 ⟨rfl, hb⟩
  have HB4 := Lib.hid (HB3.out.trans (hb.mono HB3.out.size))
  clear hb
  go_wp2_with fail
  refine (C5.out _).mono ?_
  rintro e w5 ⟨rfl, hb⟩
  have HB5 := Lib.hid (HB4.out.trans (hb.mono HB4.out.size))
  clear hb
  go_wp2_with fail
  refine (C6.out _).mono ?_
  rintro e w' ⟨rfl, rfl⟩
  go_wp2_with fail
  refine (awake5_any _).mono ?_
  rintro e w6 ⟨rfl, hb⟩
  have HB6 := Lib.hid (HB5.out.trans (hb.mono HB5.out.size))
  clear hb
  go_wp2
  go_ret
  exact ⟨rfl, HB6.out⟩
set_option maxHeartbeats 1000000 in
theorem shared_law1 (s p c : Nat) (w : World) (hs : s < 18446744073709551616) (hc : c % 7 = 1) :
    Calls Try.prog 7 #[.int .u64 (s : Int), .int .u64 (p : Int), .int .u8 (c : Int)] w fun e w' => e = .returned (.bool true) ∧ Below w.heap.size w w' := by
  have hk : (c : Int) % 7 = 1 := by omega
  clear hc
  have HB0 := Lib.hid ((Below.refl w.heap.size w).alloc (Nat.le_refl _) (.cells #[.int .u64 0, .int .u64 1, .int .u64 2, .int .u64 2305843009213693949, .int .u64 2305843009213693950, .int .u64 2305843009213693951, .int .u64 18446744073709551615] 22))
  have c1 := fun w => shrE_all s p w hs
  have c2 := fun w => shrR_all s p w hs
  have c3 := fun w => shrE_all s 1 w hs
  have c4 := fun w => shrR_all s 1 w hs
  have c5 := fun w => pubE_any s w hs
  have c6 := fun w => pubR_any s w hs
  generalize shV s p = x1 at *
  generalize shE p = x2 at *
  generalize shV s 1 = x3 at *
  generalize shE 1 = x4 at *
  generalize pubN s = x5 at *
  have C1 := Lib.hid c1
  have C2 := Lib.hid c2
  have C3 := Lib.hid c3
  have C4 := Lib.hid c4
  have C5 := Lib.hid c5
  have C6 := Lib.hid c6
  clear c1 c2 c3 c4 c5 c6
  go_enter Try.func7, Try.ntmps7
  go_wp2_with fail
  refine (C1.out _).mono ?_
  rintro e w1 ⟨rfl, hb⟩
  have HB1 := Lib.hid (HB0.out.trans (hb.mono HB0.out.size))
  clear hb
  go_wp2_with fail
  refine (C2.out _).mono ?_
  rintro e w2 ⟨rfl, hb⟩
  have HB2 := Lib.hid (HB1.out.trans (hb.mono HB1.out.size))
  clear hb
  go_wp2_with fail
  refine (C3.out _).mono ?_
  rintro e w3 ⟨rfl, hb⟩
  have HB3 := Lib.hid (HB2.out.trans (hb.mono HB2.out.size))
  clear hb
  go_wp2_with fail
  refine (C4.out _).mono ?_
  rintro e w4 ⟨rfl, hb⟩
  have HB4 := Lib.hid (HB3.out.trans (hb.mono HB3.out.size))
  clear hb
  go_wp2_with fail
  refine (C5.out _).mono ?_
  rintro e w5 ⟨rfl, hb⟩
  have HB5 := Lib.hid (HB4.out.trans (hb.mono HB4.out.size))
  clear hb
  go_wp2_with fail
  refine (C6.out _).mono ?_
  rintro e w' ⟨rfl, rfl⟩
  go_wp2_with fail
  refine (awake5_any _).mono ?_
  rintro e w6 ⟨rfl, hb⟩
  have HB6 := Lib.hid (HB5.out.trans (hb.mono HB5.out.size))
  clear hb
  go_wp2
  go_ret
  exact ⟨rfl, HB6.out⟩
set_option maxHeartbeats 1000000 in
theorem shared_law2 (s p c : Nat) (w : World) (hs : s < 18446744073709551616) (hc : c % 7 = 2) :
    Calls Try.prog 7 #[.int .u64 (s : Int), .int .u64 (p : Int), .int .u8 (c : Int)] w fun e w' => e = .returned (.bool true) ∧ Below w.heap.size w w' := by
  have hk : (c : Int) % 7 = 2 := by omega
  clear hc
  have HB0 := Lib.hid ((Below.refl w.heap.size w).alloc (Nat.le_refl _) (.cells #[.int .u64 0, .int .u64 1, .int .u64 2, .int .u64 2305843009213693949, .int .u64 2305843009213693950, .int .u64 2305843009213693951, .int .u64 18446744073709551615] 22))
  have c1 := fun w => shrE_all s p w hs
  have c2 := fun w => shrR_all s p w hs
  have c3 := fun w => shrE_all s 2 w hs
  have c4 := fun w => shrR_all s 2 w hs
  have c5 := fun w => pubE_any s w hs
  have c6 := fun w => pubR_any s w hs
  generalize shV s p = x1 at *
  generalize shE p = x2 at *
  generalize shV s 2 = x3 at *
  generalize shE 2 = x4 at *
  generalize pubN s = x5 at *
  have C1 := Lib.hid c1
  have C2 := Lib.hid c2
  have C3 := Lib.hid c3
  have C4 := Lib.hid c4
  have C5 := Lib.hid c5
  have C6 := Lib.hid c6
  clear c1 c2 c3 c4 c5 c6
  go_enter Try.func7, Try.ntmps7
  go_wp2_with fail
  refine (C1.out _).mono ?_
  rintro e w1 ⟨rfl, hb⟩
  have HB1 := Lib.hid (HB0.out.trans (hb.mono HB0.out.size))
  clear hb
  go_wp2_with fail
  refine (C2.out _).mono ?_
  rintro e w2 ⟨rfl, hb⟩
  have HB2 := Lib.hid (HB1.out.trans (hb.mono HB1.out.size))
  clear hb
  go_wp2_with fail
  refine (C3.out _).mono ?_
  rintro e w3 ⟨rfl, hb⟩
  have HB3 := Lib.hid (HB2.out.trans (hb.mono HB2.out.size))
  clear hb
  go_wp2_with fail
  refine (C4.out _).mono ?_
  rintro e w4 ⟨rfl, hb⟩
  have HB4 := Lib.hid (HB3.out.trans (hb.mono HB3.out.size))
  clear hb
  go_wp2_with fail
  refine (C5.out _).mono ?_
  rintro e w5 ⟨rfl, hb⟩
  have HB5 := Lib.hid (HB4.out.trans (hb.mono HB4.out.size))
  clear hb
  go_wp2_with fail
  refine (C6.out _).mono ?_
  rintro e w' ⟨rfl, rfl⟩
  go_wp2_with fail
  refine (awake5_any _).mono ?_
  rintro e w6 ⟨rfl, hb⟩
  have HB6 := Lib.hid (HB5.out.trans (hb.mono HB5.out.size))
  clear hb
  go_wp2
  go_ret
  exact ⟨rfl, HB6.out⟩
set_option maxHeartbeats 1000000 in
theorem shared_law3 (s p c : Nat) (w : World) (hs : s < 18446744073709551616) (hc : c % 7 = 3) :
    Calls Try.prog 7 #[.int .u64 (s : Int), .int .u64 (p : Int), .int .u8 (c : Int)] w fun e w' => e = .returned (.bool true) ∧ Below w.heap.size w w' := by
  have hk : (c : Int) % 7 = 3 := by omega
  clear hc
  have HB0 := Lib.hid ((Below.refl w.heap.size w).alloc (Nat.le_refl _) (.cells #[.int .u64 0, .int .u64 1, .int .u64 2, .int .u64 2305843009213693949, .int .u64 2305843009213693950, .int .u64 2305843009213693951, .int .u64 18446744073709551615] 22))
  have c1 := fun w => shrE_all s p w hs
  have c2 := fun w => shrR_all s p w hs
  have c3 := fun w => shrE_all s 2305843009213693949 w hs
  have c4 := fun w => shrR_all s 2305843009213693949 w hs
  have c5 := fun w => pubE_any s w hs
  have c6 := fun w => pubR_any s w hs
  generalize shV s p = x1 at *
  generalize shE p = x2 at *
  generalize shV s 2305843009213693949 = x3 at *
  generalize shE 2305843009213693949 = x4 at *
  generalize pubN s = x5 at *
  have C1 := Lib.hid c1
  have C2 := Lib.hid c2
  have C3 := Lib.hid c3
  have C4 := Lib.hid c4
  have C5 := Lib.hid c5
  have C6 := Lib.hid c6
  clear c1 c2 c3 c4 c5 c6
  go_enter Try.func7, Try.ntmps7
  go_wp2_with fail
  refine (C1.out _).mono ?_
  rintro e w1 ⟨rfl, hb⟩
  have HB1 := Lib.hid (HB0.out.trans (hb.mono HB0.out.size))
  clear hb
  go_wp2_with fail
  refine (C2.out _).mono ?_
  rintro e w2 ⟨rfl, hb⟩
  have HB2 := Lib.hid (HB1.out.trans (hb.mono HB1.out.size))
  clear hb
  go_wp2_with fail
  refine (C3.out _).mono ?_
  rintro e w3 ⟨rfl, hb⟩
  have HB3 := Lib.hid (HB2.out.trans (hb.mono HB2.out.size))
  clear hb
  go_wp2_with fail
  refine (C4.out _).mono ?_
  rintro e w4 ⟨rfl, hb⟩
  have HB4 := Lib.hid (HB3.out.trans (hb.mono HB3.out.size))
  clear hb
  go_wp2_with fail
  refine (C5.out _).mono ?_
  rintro e w5 ⟨rfl, hb⟩
  have HB5 := Lib.hid (HB4.out.trans (hb.mono HB4.out.size))
  clear hb
  go_wp2_with fail
  refine (C6.out _).mono ?_
  rintro e w' ⟨rfl, rfl⟩
  go_wp2_with fail
  refine (awake5_any _).mono ?_
  rintro e w6 ⟨rfl, hb⟩
  have HB6 := Lib.hid (HB5.out.trans (hb.mono HB5.out.size))
  clear hb
  go_wp2
  go_ret
  exact ⟨rfl, HB6.out⟩
set_option maxHeartbeats 1000000 in
theorem shared_law4 (s p c : Nat) (w : World) (hs : s < 18446744073709551616) (hc : c % 7 = 4) :
    Calls Try.prog 7 #[.int .u64 (s : Int), .int .u64 (p : Int), .int .u8 (c : Int)] w fun e w' => e = .returned (.bool true) ∧ Below w.heap.size w w' := by
  have hk : (c : Int) % 7 = 4 := by omega
  clear hc
  have HB0 := Lib.hid ((Below.refl w.heap.size w).alloc (Nat.le_refl _) (.cells #[.int .u64 0, .int .u64 1, .int .u64 2, .int .u64 2305843009213693949, .int .u64 2305843009213693950, .int .u64 2305843009213693951, .int .u64 18446744073709551615] 22))
  have c1 := fun w => shrE_all s p w hs
  have c2 := fun w => shrR_all s p w hs
  have c3 := fun w => shrE_all s 2305843009213693950 w hs
  have c4 := fun w => shrR_all s 2305843009213693950 w hs
  have c5 := fun w => pubE_any s w hs
  have c6 := fun w => pubR_any s w hs
  generalize shV s p = x1 at *
  generalize shE p = x2 at *
  generalize shV s 2305843009213693950 = x3 at *
  generalize shE 2305843009213693950 = x4 at *
  generalize pubN s = x5 at *
  have C1 := Lib.hid c1
  have C2 := Lib.hid c2
  have C3 := Lib.hid c3
  have C4 := Lib.hid c4
  have C5 := Lib.hid c5
  have C6 := Lib.hid c6
  clear c1 c2 c3 c4 c5 c6
  go_enter Try.func7, Try.ntmps7
  go_wp2_with fail
  refine (C1.out _).mono ?_
  rintro e w1 ⟨rfl, hb⟩
  have HB1 := Lib.hid (HB0.out.trans (hb.mono HB0.out.size))
  clear hb
  go_wp2_with fail
  refine (C2.out _).mono ?_
  rintro e w2 ⟨rfl, hb⟩
  have HB2 := Lib.hid (HB1.out.trans (hb.mono HB1.out.size))
  clear hb
  go_wp2_with fail
  refine (C3.out _).mono ?_
  rintro e w3 ⟨rfl, hb⟩
  have HB3 := Lib.hid (HB2.out.trans (hb.mono HB2.out.size))
  clear hb
  go_wp2_with fail
  refine (C4.out _).mono ?_
  rintro e w4 ⟨rfl, hb⟩
  have HB4 := Lib.hid (HB3.out.trans (hb.mono HB3.out.size))
  clear hb
  go_wp2_with fail
  refine (C5.out _).mono ?_
  rintro e w5 ⟨rfl, hb⟩
  have HB5 := Lib.hid (HB4.out.trans (hb.mono HB4.out.size))
  clear hb
  go_wp2_with fail
  refine (C6.out _).mono ?_
  rintro e w' ⟨rfl, rfl⟩
  go_wp2_with fail
  refine (awake5_any _).mono ?_
  rintro e w6 ⟨rfl, hb⟩
  have HB6 := Lib.hid (HB5.out.trans (hb.mono HB5.out.size))
  clear hb
  go_wp2
  go_ret
  exact ⟨rfl, HB6.out⟩
set_option maxHeartbeats 1000000 in
theorem shared_law5 (s p c : Nat) (w : World) (hs : s < 18446744073709551616) (hc : c % 7 = 5) :
    Calls Try.prog 7 #[.int .u64 (s : Int), .int .u64 (p : Int), .int .u8 (c : Int)] w fun e w' => e = .returned (.bool true) ∧ Below w.heap.size w w' := by
  have hk : (c : Int) % 7 = 5 := by omega
  clear hc
  have HB0 := Lib.hid ((Below.refl w.heap.size w).alloc (Nat.le_refl _) (.cells #[.int .u64 0, .int .u64 1, .int .u64 2, .int .u64 2305843009213693949, .int .u64 2305843009213693950, .int .u64 2305843009213693951, .int .u64 18446744073709551615] 22))
  have c1 := fun w => shrE_all s p w hs
  have c2 := fun w => shrR_all s p w hs
  have c3 := fun w => shrE_all s 2305843009213693951 w hs
  have c4 := fun w => shrR_all s 2305843009213693951 w hs
  have c5 := fun w => pubE_any s w hs
  have c6 := fun w => pubR_any s w hs
  generalize shV s p = x1 at *
  generalize shE p = x2 at *
  generalize shV s 2305843009213693951 = x3 at *
  generalize shE 2305843009213693951 = x4 at *
  generalize pubN s = x5 at *
  have C1 := Lib.hid c1
  have C2 := Lib.hid c2
  have C3 := Lib.hid c3
  have C4 := Lib.hid c4
  have C5 := Lib.hid c5
  have C6 := Lib.hid c6
  clear c1 c2 c3 c4 c5 c6
  go_enter Try.func7, Try.ntmps7
  go_wp2_with fail
  refine (C1.out _).mono ?_
  rintro e w1 ⟨rfl, hb⟩
  have HB1 := Lib.hid (HB0.out.trans (hb.mono HB0.out.size))
  clear hb
  go_wp2_with fail
  refine (C2.out _).mono ?_
  rintro e w2 ⟨rfl, hb⟩
  have HB2 := Lib.hid (HB1.out.trans (hb.mono HB1.out.size))
  clear hb
  go_wp2_with fail
  refine (C3.out _).mono ?_
  rintro e w3 ⟨rfl, hb⟩
  have HB3 := Lib.hid (HB2.out.trans (hb.mono HB2.out.size))
  clear hb
  go_wp2_with fail
  refine (C4.out _).mono ?_
  rintro e w4 ⟨rfl, hb⟩
  have HB4 := Lib.hid (HB3.out.trans (hb.mono HB3.out.size))
  clear hb
  go_wp2_with fail
  refine (C5.out _).mono ?_
  rintro e w5 ⟨rfl, hb⟩
  have HB5 := Lib.hid (HB4.out.trans (hb.mono HB4.out.size))
  clear hb
  go_wp2_with fail
  refine (C6.out _).mono ?_
  rintro e w' ⟨rfl, rfl⟩
  go_wp2_with fail
  refine (awake5_any _).mono ?_
  rintro e w6 ⟨rfl, hb⟩
  have HB6 := Lib.hid (HB5.out.trans (hb.mono HB5.out.size))
  clear hb
  go_wp2
  go_ret
  exact ⟨rfl, HB6.out⟩
set_option maxHeartbeats 1000000 in
theorem shared_law6 (s p c : Nat) (w : World) (hs : s < 18446744073709551616) (hc : c % 7 = 6) :
    Calls Try.prog 7 #[.int .u64 (s : Int), .int .u64 (p : Int), .int .u8 (c : Int)] w fun e w' => e = .returned (.bool true) ∧ Below w.heap.size w w' := by
  have hk : (c : Int) % 7 = 6 := by omega
  clear hc
  have HB0 := Lib.hid ((Below.refl w.heap.size w).alloc (Nat.le_refl _) (.cells #[.int .u64 0, .int .u64 1, .int .u64 2, .int .u64 2305843009213693949, .int .u64 2305843009213693950, .int .u64 2305843009213693951, .int .u64 18446744073709551615] 22))
  have c1 := fun w => shrE_all s p w hs
  have c2 := fun w => shrR_all s p w hs
  have c3 := fun w => shrE_all s 18446744073709551615 w hs
  have c4 := fun w => shrR_all s 18446744073709551615 w hs
  have c5 := fun w => pubE_any s w hs
  have c6 := fun w => pubR_any s w hs
  generalize shV s p = x1 at *
  generalize shE p = x2 at *
  generalize shV s 18446744073709551615 = x3 at *
  generalize shE 18446744073709551615 = x4 at *
  generalize pubN s = x5 at *
  have C1 := Lib.hid c1
  have C2 := Lib.hid c2
  have C3 := Lib.hid c3
  have C4 := Lib.hid c4
  have C5 := Lib.hid c5
  have C6 := Lib.hid c6
  clear c1 c2 c3 c4 c5 c6
  go_enter Try.func7, Try.ntmps7
  go_wp2_with fail
  refine (C1.out _).mono ?_
  rintro e w1 ⟨rfl, hb⟩
  have HB1 := Lib.hid (HB0.out.trans (hb.mono HB0.out.size))
  clear hb
  go_wp2_with fail
  refine (C2.out _).mono ?_
  rintro e w2 ⟨rfl, hb⟩
  have HB2 := Lib.hid (HB1.out.trans (hb.mono HB1.out.size))
  clear hb
  go_wp2_with fail
  refine (C3.out _).mono ?_
  rintro e w3 ⟨rfl, hb⟩
  have HB3 := Lib.hid (HB2.out.trans (hb.mono HB2.out.size))
  clear hb
  go_wp2_with fail
  refine (C4.out _).mono ?_
  rintro e w4 ⟨rfl, hb⟩
  have HB4 := Lib.hid (HB3.out.trans (hb.mono HB3.out.size))
  clear hb
  go_wp2_with fail
  refine (C5.out _).mono ?_
  rintro e w5 ⟨rfl, hb⟩
  have HB5 := Lib.hid (HB4.out.trans (hb.mono HB4.out.size))
  clear hb
  go_wp2_with fail
  refine (C6.out _).mono ?_
  rintro e w' ⟨rfl, rfl⟩
  go_wp2_with fail
  refine (awake5_any _).mono ?_
  rintro e w6 ⟨rfl, hb⟩
  have HB6 := Lib.hid (HB5.out.trans (hb.mono HB5.out.size))
  clear hb
  go_wp2
  go_ret
  exact ⟨rfl, HB6.out⟩
theorem shr_agree (a b : Nat) : shrW a (pubN b) = shrW b (pubN a) := by
  unfold shrW pubN
  rw [agree]
theorem pubN_lt (s : Nat) : pubN s < 2305843009213693951 := powN_lt _ _
set_option maxHeartbeats 1000000 in
theorem agrees_yes (a b : Nat) (w : World) (ha : a < 18446744073709551616) (hb : b < 18446744073709551616) (h1 : 2 ≤ pubN a) (h2 : pubN a ≤ 2305843009213693949) (h3 : 2 ≤ pubN b) (h4 : pubN b ≤ 2305843009213693949) :
    Calls Try.prog 8 #[.int .u64 (a : Int), .int .u64 (b : Int)] w fun e w' => e = .returned (.bool true) ∧ Below w.heap.size w w' := by
  have c1 := fun w => pubE_any a w ha
  have c2 := fun w => pubE_any b w hb
  have c3 := fun w => shrE_ok a (pubN b) w ha h3 h4
  have c4 := fun w => shrE_ok b (pubN a) w hb h1 h2
  rw [shr_agree a b] at c3
  generalize shrW b (pubN a) = q at *
  generalize pubN a = X at *
  generalize pubN b = Y at *
  have f1 : ¬ (X : Int) < 2 := by omega
  have f2 : ¬ (2305843009213693949 : Int) < (X : Int) := by omega
  have f3 : ¬ (Y : Int) < 2 := by omega
  have f4 : ¬ (2305843009213693949 : Int) < (Y : Int) := by omega
  have C1 := Lib.hid c1
  have C2 := Lib.hid c2
  have C3 := Lib.hid c3
  have C4 := Lib.hid c4
  have HB0 := Lib.hid (Below.refl w.heap.size w)
  clear c1 c2 c3 c4
  go_enter Try.func8, Try.ntmps8
  go_wp2_with fail
  refine (C1.out _).mono ?_
  rintro e w1 ⟨rfl, hb⟩
  have HB1 := Lib.hid (HB0.out.trans (hb.mono HB0.out.size))
  clear hb
  go_wp2_with fail
  refine (C2.out _).mono ?_
  rintro e w2 ⟨rfl, hb⟩
  have HB2 := Lib.hid (HB1.out.trans (hb.mono HB1.out.size))
  clear hb
  go_wp2_with fail
  refine (C3.out _).mono ?_
  rintro e w3 ⟨rfl, hb⟩
  have HB3 := Lib.hid (HB2.out.trans (hb.mono HB2.out.size))
  clear hb
  go_wp2_with fail
  refine (C4.out _).mono ?_
  rintro e w4 ⟨rfl, hb⟩
  have HB4 := Lib.hid (HB3.out.trans (hb.mono HB3.out.size))
  clear hb
  go_wp2_with fail
  refine (awake5_any _).mono ?_
  rintro e w5 ⟨rfl, hb⟩
  have HB5 := Lib.hid (HB4.out.trans (hb.mono HB4.out.size))
  clear hb
  go_wp2
  go_ret
  exact ⟨rfl, HB5.out⟩
set_option maxHeartbeats 1000000 in
theorem agrees_lo (a b : Nat) (w : World) (ha : a < 18446744073709551616) (hb : b < 18446744073709551616) (h1 : pubN a < 2) :
    Calls Try.prog 8 #[.int .u64 (a : Int), .int .u64 (b : Int)] w fun e w' => e = .returned (.bool true) ∧ Below w.heap.size w w' := by
  have c1 := fun w => pubE_any a w ha
  have c2 := fun w => pubE_any b w hb
  have c3 := fun w => pubR_any a w ha
  have c4 := fun w => pubR_any b w hb
  generalize pubN a = X at *
  generalize pubN b = Y at *
  have f1 : (X : Int) < 2 := by omega
  have C1 := Lib.hid c1
  have C2 := Lib.hid c2
  have C3 := Lib.hid c3
  have C4 := Lib.hid c4
  have HB0 := Lib.hid (Below.refl w.heap.size w)
  clear c1 c2 c3 c4
  go_enter Try.func8, Try.ntmps8
  go_wp2_with fail
  refine (C1.out _).mono ?_
  rintro e w1 ⟨rfl, hb⟩
  have HB1 := Lib.hid (HB0.out.trans (hb.mono HB0.out.size))
  clear hb
  go_wp2_with fail
  refine (C2.out _).mono ?_
  rintro e w2 ⟨rfl, hb⟩
  have HB2 := Lib.hid (HB1.out.trans (hb.mono HB1.out.size))
  clear hb
  go_wp2_with fail
  refine (C3.out _).mono ?_
  rintro e w' ⟨rfl, rfl⟩
  go_wp2_with fail
  refine (C4.out _).mono ?_
  rintro e w' ⟨rfl, rfl⟩
  go_wp2_with fail
  refine (awake5_any _).mono ?_
  rintro e w3 ⟨rfl, hb⟩
  have HB3 := Lib.hid (HB2.out.trans (hb.mono HB2.out.size))
  clear hb
  go_wp2
  go_ret
  exact ⟨rfl, HB3.out⟩
set_option maxHeartbeats 1000000 in
theorem agrees_hi (a b : Nat) (w : World) (ha : a < 18446744073709551616) (hb : b < 18446744073709551616) (_ : 2 ≤ pubN a) (h2 : 2305843009213693949 < pubN a) :
    Calls Try.prog 8 #[.int .u64 (a : Int), .int .u64 (b : Int)] w fun e w' => e = .returned (.bool true) ∧ Below w.heap.size w w' := by
  have c1 := fun w => pubE_any a w ha
  have c2 := fun w => pubE_any b w hb
  have c3 := fun w => pubR_any a w ha
  have c4 := fun w => pubR_any b w hb
  generalize pubN a = X at *
  generalize pubN b = Y at *
  have f1 : ¬ (X : Int) < 2 := by omega
  have f2 : (2305843009213693949 : Int) < (X : Int) := by omega
  have C1 := Lib.hid c1
  have C2 := Lib.hid c2
  have C3 := Lib.hid c3
  have C4 := Lib.hid c4
  have HB0 := Lib.hid (Below.refl w.heap.size w)
  clear c1 c2 c3 c4
  go_enter Try.func8, Try.ntmps8
  go_wp2_with fail
  refine (C1.out _).mono ?_
  rintro e w1 ⟨rfl, hb⟩
  have HB1 := Lib.hid (HB0.out.trans (hb.mono HB0.out.size))
  clear hb
  go_wp2_with fail
  refine (C2.out _).mono ?_
  rintro e w2 ⟨rfl, hb⟩
  have HB2 := Lib.hid (HB1.out.trans (hb.mono HB1.out.size))
  clear hb
  go_wp2_with fail
  refine (C3.out _).mono ?_
  rintro e w' ⟨rfl, rfl⟩
  go_wp2_with fail
  refine (C4.out _).mono ?_
  rintro e w' ⟨rfl, rfl⟩
  go_wp2_with fail
  refine (awake5_any _).mono ?_
  rintro e w3 ⟨rfl, hb⟩
  have HB3 := Lib.hid (HB2.out.trans (hb.mono HB2.out.size))
  clear hb
  go_wp2
  go_ret
  exact ⟨rfl, HB3.out⟩
set_option maxHeartbeats 1000000 in
theorem agrees_lo2 (a b : Nat) (w : World) (ha : a < 18446744073709551616) (hb : b < 18446744073709551616) (h1 : 2 ≤ pubN a) (h2 : pubN a ≤ 2305843009213693949) (h3 : pubN b < 2) :
    Calls Try.prog 8 #[.int .u64 (a : Int), .int .u64 (b : Int)] w fun e w' => e = .returned (.bool true) ∧ Below w.heap.size w w' := by
  have c1 := fun w => pubE_any a w ha
  have c2 := fun w => pubE_any b w hb
  have c3 := fun w => pubR_any a w ha
  have c4 := fun w => pubR_any b w hb
  generalize pubN a = X at *
  generalize pubN b = Y at *
  have f1 : ¬ (X : Int) < 2 := by omega
  have f2 : ¬ (2305843009213693949 : Int) < (X : Int) := by omega
  have f3 : (Y : Int) < 2 := by omega
  have C1 := Lib.hid c1
  have C2 := Lib.hid c2
  have C3 := Lib.hid c3
  have C4 := Lib.hid c4
  have HB0 := Lib.hid (Below.refl w.heap.size w)
  clear c1 c2 c3 c4
  go_enter Try.func8, Try.ntmps8
  go_wp2_with fail
  refine (C1.out _).mono ?_
  rintro e w1 ⟨rfl, hb⟩
  have HB1 := Lib.hid (HB0.out.trans (hb.mono HB0.out.size))
  clear hb
  go_wp2_with fail
  refine (C2.out _).mono ?_
  rintro e w2 ⟨rfl, hb⟩
  have HB2 := Lib.hid (HB1.out.trans (hb.mono HB1.out.size))
  clear hb
  go_wp2_with fail
  refine (C3.out _).mono ?_
  rintro e w' ⟨rfl, rfl⟩
  go_wp2_with fail
  refine (C4.out _).mono ?_
  rintro e w' ⟨rfl, rfl⟩
  go_wp2_with fail
  refine (awake5_any _).mono ?_
  rintro e w3 ⟨rfl, hb⟩
  have HB3 := Lib.hid (HB2.out.trans (hb.mono HB2.out.size))
  clear hb
  go_wp2
  go_ret
  exact ⟨rfl, HB3.out⟩
set_option maxHeartbeats 1000000 in
theorem agrees_hi2 (a b : Nat) (w : World) (ha : a < 18446744073709551616) (hb : b < 18446744073709551616) (h1 : 2 ≤ pubN a) (h2 : pubN a ≤ 2305843009213693949) (_ : 2 ≤ pubN b) (h4 : 2305843009213693949 < pubN b) :
    Calls Try.prog 8 #[.int .u64 (a : Int), .int .u64 (b : Int)] w fun e w' => e = .returned (.bool true) ∧ Below w.heap.size w w' := by
  have c1 := fun w => pubE_any a w ha
  have c2 := fun w => pubE_any b w hb
  have c3 := fun w => pubR_any a w ha
  have c4 := fun w => pubR_any b w hb
  generalize pubN a = X at *
  generalize pubN b = Y at *
  have f1 : ¬ (X : Int) < 2 := by omega
  have f2 : ¬ (2305843009213693949 : Int) < (X : Int) := by omega
  have f3 : ¬ (Y : Int) < 2 := by omega
  have f4 : (2305843009213693949 : Int) < (Y : Int) := by omega
  have C1 := Lib.hid c1
  have C2 := Lib.hid c2
  have C3 := Lib.hid c3
  have C4 := Lib.hid c4
  have HB0 := Lib.hid (Below.refl w.heap.size w)
  clear c1 c2 c3 c4
  go_enter Try.func8, Try.ntmps8
  go_wp2_with fail
  refine (C1.out _).mono ?_
  rintro e w1 ⟨rfl, hb⟩
  have HB1 := Lib.hid (HB0.out.trans (hb.mono HB0.out.size))
  clear hb
  go_wp2_with fail
  refine (C2.out _).mono ?_
  rintro e w2 ⟨rfl, hb⟩
  have HB2 := Lib.hid (HB1.out.trans (hb.mono HB1.out.size))
  clear hb
  go_wp2_with fail
  refine (C3.out _).mono ?_
  rintro e w' ⟨rfl, rfl⟩
  go_wp2_with fail
  refine (C4.out _).mono ?_
  rintro e w' ⟨rfl, rfl⟩
  go_wp2_with fail
  refine (awake5_any _).mono ?_
  rintro e w3 ⟨rfl, hb⟩
  have HB3 := Lib.hid (HB2.out.trans (hb.mono HB2.out.size))
  clear hb
  go_wp2
  go_ret
  exact ⟨rfl, HB3.out⟩
theorem agrees_law (a b : Nat) (w : World) (ha : a < 18446744073709551616) (hb : b < 18446744073709551616) :
    Calls Try.prog 8 #[.int .u64 (a : Int), .int .u64 (b : Int)] w fun e w' => e = .returned (.bool true) ∧ Below w.heap.size w w' := by
  by_cases h1 : 2 ≤ pubN a
  · by_cases h2 : pubN a ≤ 2305843009213693949
    · by_cases h3 : 2 ≤ pubN b
      · by_cases h4 : pubN b ≤ 2305843009213693949
        · exact agrees_yes a b w ha hb h1 h2 h3 h4
        · exact agrees_hi2 a b w ha hb h1 h2 h3 (by omega)
      · exact agrees_lo2 a b w ha hb h1 h2 (by omega)
    · exact agrees_hi a b w ha hb h1 (by omega)
  · exact agrees_lo a b w ha hb (by omega)
theorem mul_law_at (x : Int) (y : Int) (z : Int) (hx : 0 ≤ x ∧ x ≤ 18446744073709551615) (hy : 0 ≤ y ∧ y ≤ 18446744073709551615) (hz : 0 ≤ z ∧ z ≤ 255) (w : World) :
    Calls Try.prog 3 #[.int .u64 x, .int .u64 y, .int .u8 z] w fun e w' => e = .returned (.bool true) ∧ Below w.heap.size w w' := by
  obtain ⟨X, rfl⟩ := Int.eq_ofNat_of_zero_le hx.1
  obtain ⟨Y, rfl⟩ := Int.eq_ofNat_of_zero_le hy.1
  obtain ⟨Z, rfl⟩ := Int.eq_ofNat_of_zero_le hz.1
  rcases (by omega : Z % 6 = 0 ∨ Z % 6 = 1 ∨ Z % 6 = 2 ∨ Z % 6 = 3 ∨ Z % 6 = 4 ∨ Z % 6 = 5) with h | h | h | h | h | h
  · exact mul_law0 X Y Z w (by omega) (by omega) h
  · exact mul_law1 X Y Z w (by omega) (by omega) h
  · exact mul_law2 X Y Z w (by omega) (by omega) h
  · exact mul_law3 X Y Z w (by omega) (by omega) h
  · exact mul_law4 X Y Z w (by omega) (by omega) h
  · exact mul_law5 X Y Z w (by omega) (by omega) h
theorem pow_law_at (x : Int) (y : Int) (z : Int) (hx : 0 ≤ x ∧ x ≤ 18446744073709551615) (hy : 0 ≤ y ∧ y ≤ 18446744073709551615) (hz : 0 ≤ z ∧ z ≤ 255) (w : World) :
    Calls Try.prog 4 #[.int .u64 x, .int .u64 y, .int .u8 z] w fun e w' => e = .returned (.bool true) ∧ Below w.heap.size w w' := by
  obtain ⟨X, rfl⟩ := Int.eq_ofNat_of_zero_le hx.1
  obtain ⟨Y, rfl⟩ := Int.eq_ofNat_of_zero_le hy.1
  obtain ⟨Z, rfl⟩ := Int.eq_ofNat_of_zero_le hz.1
  exact pow_law X Y Z w (by omega) (by omega)
theorem field_law_at (x : Int) (y : Int) (z : Int) (hx : 0 ≤ x ∧ x ≤ 18446744073709551615) (hy : 0 ≤ y ∧ y ≤ 18446744073709551615) (hz : 0 ≤ z ∧ z ≤ 18446744073709551615) (w : World) :
    Calls Try.prog 5 #[.int .u64 x, .int .u64 y, .int .u64 z] w fun e w' => e = .returned (.bool true) ∧ Below w.heap.size w w' := by
  obtain ⟨X, rfl⟩ := Int.eq_ofNat_of_zero_le hx.1
  obtain ⟨Y, rfl⟩ := Int.eq_ofNat_of_zero_le hy.1
  obtain ⟨Z, rfl⟩ := Int.eq_ofNat_of_zero_le hz.1
  exact field_law X Y Z w
theorem sums5_law_at (x : Int) (y : Int) (z : Int) (hx : 0 ≤ x ∧ x ≤ 18446744073709551615) (hy : 0 ≤ y ∧ y ≤ 18446744073709551615) (hz : 0 ≤ z ∧ z ≤ 18446744073709551615) (w : World) :
    Calls Try.prog 6 #[.int .u64 x, .int .u64 y, .int .u64 z] w fun e w' => e = .returned (.bool true) ∧ Below w.heap.size w w' := by
  obtain ⟨X, rfl⟩ := Int.eq_ofNat_of_zero_le hx.1
  obtain ⟨Y, rfl⟩ := Int.eq_ofNat_of_zero_le hy.1
  obtain ⟨Z, rfl⟩ := Int.eq_ofNat_of_zero_le hz.1
  by_cases h0 : X % 2305843009213693951 = 0
  · exact sums_zero X Y Z w (by omega) (by omega) (by omega) h0
  · exact sums_one X Y Z w (by omega) (by omega) (by omega) h0
theorem shared_law_at (x : Int) (y : Int) (z : Int) (hx : 0 ≤ x ∧ x ≤ 18446744073709551615) (hy : 0 ≤ y ∧ y ≤ 18446744073709551615) (hz : 0 ≤ z ∧ z ≤ 255) (w : World) :
    Calls Try.prog 7 #[.int .u64 x, .int .u64 y, .int .u8 z] w fun e w' => e = .returned (.bool true) ∧ Below w.heap.size w w' := by
  obtain ⟨X, rfl⟩ := Int.eq_ofNat_of_zero_le hx.1
  obtain ⟨Y, rfl⟩ := Int.eq_ofNat_of_zero_le hy.1
  obtain ⟨Z, rfl⟩ := Int.eq_ofNat_of_zero_le hz.1
  rcases (by omega : Z % 7 = 0 ∨ Z % 7 = 1 ∨ Z % 7 = 2 ∨ Z % 7 = 3 ∨ Z % 7 = 4 ∨ Z % 7 = 5 ∨ Z % 7 = 6) with h | h | h | h | h | h | h
  · exact shared_law0 X Y Z w (by omega) h
  · exact shared_law1 X Y Z w (by omega) h
  · exact shared_law2 X Y Z w (by omega) h
  · exact shared_law3 X Y Z w (by omega) h
  · exact shared_law4 X Y Z w (by omega) h
  · exact shared_law5 X Y Z w (by omega) h
  · exact shared_law6 X Y Z w (by omega) h
theorem agrees_law_at (x : Int) (y : Int) (hx : 0 ≤ x ∧ x ≤ 18446744073709551615) (hy : 0 ≤ y ∧ y ≤ 18446744073709551615) (w : World) :
    Calls Try.prog 8 #[.int .u64 x, .int .u64 y] w fun e w' => e = .returned (.bool true) ∧ Below w.heap.size w w' := by
  obtain ⟨X, rfl⟩ := Int.eq_ofNat_of_zero_le hx.1
  obtain ⟨Y, rfl⟩ := Int.eq_ofNat_of_zero_le hy.1
  exact agrees_law X Y w (by omega) (by omega)
end Go.Proofs.Ytampadcdmildfaa
