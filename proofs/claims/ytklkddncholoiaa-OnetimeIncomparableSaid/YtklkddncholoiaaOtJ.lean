/- The laws of layer 3, walked. -/
import Derived.Test.YtklkddncholoiaaOtI
namespace Go.Proofs.Ytklkddncholoiaa
open Go.RowKit
set_option maxRecDepth 100000

set_option maxHeartbeats 1000000 in
theorem splits_law (m : BitVec 64) (w : World) :
    Calls Try.prog 3 #[.int .u64 (val m)] w fun e w' => e = .returned (.bool true) ∧ Below w.heap.size w w' := by
  go_enter Try.func3, Try.ntmps3
  go_wp2_with fail
  refine (splitS_any m _).mono ?_
  rintro e w1 ⟨ga, rfl, hA, hb1⟩
  go_wp2_with fail
  refine (splitR_any m _).mono ?_
  rintro e w2 ⟨B, c, rfl, hB, hb2⟩
  go_wp2_with fail
  refine (ints_any _ _ 18 _ _ _ _ (hA.below hb2) hB (by omega)).mono ?_
  rintro e w3 ⟨rfl, hb3⟩
  go_wp2_with fail
  refine (awakeO_any _).mono ?_
  rintro e w4 ⟨rfl, hb4⟩
  go_wp2
  go_ret
  have h12 := hb1.trans (hb2.mono hb1.size)
  have h13 := h12.trans (hb3.mono h12.size)
  exact ⟨rfl, h13.trans (hb4.mono h13.size)⟩

theorem pow_wrap (j : Nat) : IntKind.u64.wrap (2 ^ j) = val (1#64 <<< j) := by
  have h := val_shl 1#64 j
  rw [show val 1#64 = 1 from rfl, Int.one_mul] at h
  exact h
theorem wrap64_le (z : Int) : wrap64 z ≤ 9223372036854775807 := by unfold wrap64; omega

set_option maxHeartbeats 1000000 in
theorem incomp_law (m n : BitVec 64) (b : Int) (hb0 : 0 ≤ b) (hb1 : b ≤ 255) (w : World) :
    Calls Try.prog 4 #[.int .u64 (val m), .int .u64 (val n), .int .u8 b] w fun e w' => e = .returned (.bool true) ∧ Below w.heap.size w w' := by
  go_enter Try.func4, Try.ntmps4
  go_wp2_with fail
  refine (incomp_any m n _).mono ?_
  rintro e w1 ⟨rfl, hb1⟩
  go_wp2_with fail
  rw [pow_wrap, val_xor]
  refine (incomp_any m _ _).mono ?_
  rintro e w2 ⟨rfl, hb2⟩
  go_wp2_with fail
  refine (awakeO_any _).mono ?_
  rintro e w3 ⟨rfl, hb3⟩
  go_wp2
  go_ret
  have h12 := hb1.trans (hb2.mono hb1.size)
  exact ⟨rfl, h12.trans (hb3.mono h12.size)⟩

set_option maxHeartbeats 1000000 in
theorem runs_law (l c f t : Int) (x : BitVec 64) (w : World) (hf : f ≤ 9223372036854775807) :
    Calls Try.prog 5 #[.int .i64 l, .int .i64 c, .int .i64 f, .int .i64 t, .int .u64 (val x)] w fun e w' => e = .returned (.bool true) ∧ Below w.heap.size w w' := by
  go_enter Try.func5, Try.ntmps5
  go_wp2_with fail
  refine (run_any l c f t x _ hf).mono ?_
  rintro e w1 ⟨rfl, hb1⟩
  go_wp2_with fail
  refine (runR_any l c f t x _ hf).mono ?_
  rintro e w2 ⟨rfl, hb2⟩
  have h12 := hb1.trans (hb2.mono hb1.size)
  clear hb1 hb2
  go_wp2_with fail
  refine (run_any _ _ _ _ _ _ (by first | exact wrap64_le _ | omega)).mono ?_
  rintro e w3 ⟨rfl, hb3⟩
  go_wp2_with fail
  refine (runR_any _ _ _ _ _ _ (by first | exact wrap64_le _ | omega)).mono ?_
  rintro e w4 ⟨rfl, hb4⟩
  have h13 := h12.trans (hb3.mono h12.size)
  have h14 := h13.trans (hb4.mono h13.size)
  go_wp2_with fail
  refine (awakeO_any _).mono ?_
  rintro e w5 ⟨rfl, hb5⟩
  go_wp2
  go_ret
  exact ⟨rfl, h14.trans (hb5.mono h14.size)⟩

set_option maxHeartbeats 1000000 in
theorem keys_law (s : BitVec 64) (l c : Int) (w : World) :
    Calls Try.prog 7 #[.int .u64 (val s), .int .i64 l, .int .i64 c] w fun e w' => e = .returned (.bool true) ∧ Below w.heap.size w w' := by
  go_enter Try.func7, Try.ntmps7
  go_wp2_with fail
  refine (secret_any s l c _).mono ?_
  rintro e w1 ⟨rfl, hb1⟩
  go_wp2_with fail
  refine (secretR_any s l c _).mono ?_
  rintro e w2 ⟨rfl, hb2⟩
  go_wp2_with fail
  refine (leaf_any s l _).mono ?_
  rintro e w3 ⟨rfl, hb3⟩
  go_wp2_with fail
  refine (leafR_any s l _).mono ?_
  rintro e w4 ⟨rfl, hb4⟩
  go_wp2_with fail
  refine (awakeO_any _).mono ?_
  rintro e w5 ⟨rfl, hb5⟩
  go_wp2
  go_ret
  have h12 := hb1.trans (hb2.mono hb1.size)
  have h13 := h12.trans (hb3.mono h12.size)
  have h14 := h13.trans (hb4.mono h13.size)
  exact ⟨rfl, h14.trans (hb5.mono h14.size)⟩

theorem runF_parts (l c : Int) (p q r : Nat) (x : BitVec 64) (h1 : p ≤ q) (h2 : q ≤ r) : runF l c q r (runF l c p q x) = runF l c p r x := by
  unfold runF
  rw [show (max (p : Int) 0).toNat = p by omega, show (max (q : Int) 0).toNat = q by omega]
  by_cases hp : p ≤ 15
  · obtain ⟨a, ha⟩ : ∃ a : Nat, (min (q : Int) 15 - max (p : Int) 0).toNat = a := ⟨_, rfl⟩
    obtain ⟨b, hb⟩ : ∃ b : Nat, (min (r : Int) 15 - max (q : Int) 0).toNat = b := ⟨_, rfl⟩
    rw [ha, hb, show (min (r : Int) 15 - max (p : Int) 0).toNat = a + b by omega, runE_add]
    by_cases hq : q ≤ 15
    · rw [show p + a = q by omega]
    · rw [show b = 0 by omega]
      rfl
  · rw [show (min (q : Int) 15 - max (p : Int) 0).toNat = 0 by omega, show (min (r : Int) 15 - max (q : Int) 0).toNat = 0 by omega, show (min (r : Int) 15 - max (p : Int) 0).toNat = 0 by omega]
    rfl

theorem runF_partsI (l c p q r : Int) (x : BitVec 64) (h0 : 0 ≤ p) (h1 : p ≤ q) (h2 : q ≤ r) : runF l c q r (runF l c p q x) = runF l c p r x := by
  obtain ⟨P, rfl⟩ := Int.eq_ofNat_of_zero_le h0
  obtain ⟨Q, rfl⟩ := Int.eq_ofNat_of_zero_le (show 0 ≤ q by omega)
  obtain ⟨R, rfl⟩ := Int.eq_ofNat_of_zero_le (show 0 ≤ r by omega)
  exact runF_parts l c P Q R x (by omega) (by omega)
theorem rec_sig (s : BitVec 64) (l : Int) (m : BitVec 64) : recF l m (vals (sigF s l m)) = leafF s l := by
  unfold recF leafF
  congr 1
  apply List.map_congr_left
  intro k hk
  have hk18 : k < 18 := by simpa using hk
  unfold recV endF
  have e : (vals (sigF s l m)).getD k 0 = sigF s l m k := by simp [vals, List.getD, hk18]
  rw [e]
  unfold sigF
  have := dig_rng m k
  exact runF_partsI l k 0 (dig m k) 15 _ (by omega) this.1 this.2

set_option maxHeartbeats 1000000 in
theorem forward_law (l c a b d : Nat) (x : BitVec 64) (w : World) (hl : l ≤ 255) (hc : c ≤ 255) (ha : a ≤ 255) (hb : b ≤ 255) (hd : d ≤ 255) :
    Calls Try.prog 6 #[.int .u8 l, .int .u8 c, .int .u8 a, .int .u8 b, .int .u8 d, .int .u64 (val x)] w fun e w' => e = .returned (.bool true) ∧ Below w.heap.size w w' := by
  go_enter Try.func6, Try.ntmps6
  go_wp2_with fail
  refine (run_any l c ((a % 16 : Nat) : Int) ((a % 16 + b % 16 + d % 16 : Nat) : Int) x _ (by omega)).mono ?_
  rintro e w1 ⟨rfl, hb1⟩
  go_wp2_with fail
  refine (run_any _ _ _ _ _ _ (by omega)).mono ?_
  rintro e w2 ⟨rfl, hb2⟩
  go_wp2_with fail
  refine (run_any _ _ _ _ _ _ (by omega)).mono ?_
  rintro e w3 ⟨rfl, hb3⟩
  rw [runF_partsI _ _ _ _ _ _ (by omega) (by omega) (by omega)]
  have h12 := hb1.trans (hb2.mono hb1.size)
  have h13 := h12.trans (hb3.mono h12.size)
  go_wp2_with fail
  refine (awakeO_any _).mono ?_
  rintro e w4 ⟨rfl, hb4⟩
  go_wp2
  go_ret
  exact ⟨rfl, h13.trans (hb4.mono h13.size)⟩

set_option maxHeartbeats 1000000 in
theorem back_law (s : BitVec 64) (l : Int) (m : BitVec 64) (w : World) :
    Calls Try.prog 9 #[.int .u64 (val s), .int .i64 l, .int .u64 (val m)] w fun e w' => e = .returned (.bool true) ∧ Below w.heap.size w w' := by
  go_enter Try.func9, Try.ntmps9
  go_wp2_with fail
  refine (sign_any s l m _).mono ?_
  rintro e w1 ⟨rfl, hC, hb1⟩
  have hW := Ws.of_cs hC
  rw [vals_len] at hW
  go_wp2_with fail
  refine (rec_any l m _ 18 _ _ hW).mono ?_
  rintro e w2 ⟨rfl, hb2⟩
  have h12 := hb1.trans (hb2.mono hb1.size)
  clear hb1 hb2 hC hW
  rw [rec_sig]
  go_wp2_with fail
  refine (leaf_any s l _).mono ?_
  rintro e w3 ⟨rfl, hb3⟩
  have h13 := h12.trans (hb3.mono h12.size)
  go_wp2_with fail
  refine (awakeO_any _).mono ?_
  rintro e w4 ⟨rfl, hb4⟩
  go_wp2
  go_ret
  exact ⟨rfl, h13.trans (hb4.mono h13.size)⟩
theorem i64_of_wf {z : Int} (h : (Lit.int .i64 z).wf = true) : -9223372036854775808 ≤ z ∧ z ≤ 9223372036854775807 := by
  have h1 : (decide (IntKind.i64.min ≤ z) && decide (z ≤ IntKind.i64.max)) = true := h
  simp only [Bool.and_eq_true, decide_eq_true_eq] at h1
  exact ⟨h1.1, h1.2⟩
theorem splits_law_at (x : Int) (hx : 0 ≤ x ∧ x ≤ 18446744073709551615) (w : World) : Calls Try.prog 3 #[.int .u64 x] w fun e w' => e = .returned (.bool true) ∧ Below w.heap.size w w' := by
  rw [val_of hx.1 hx.2]
  exact splits_law _ w
theorem incomp_law_at (x : Int) (hx : 0 ≤ x ∧ x ≤ 18446744073709551615) (y : Int) (hy : 0 ≤ y ∧ y ≤ 18446744073709551615) (z : Int) (hz : 0 ≤ z ∧ z ≤ 255) (w : World) : Calls Try.prog 4 #[.int .u64 x, .int .u64 y, .int .u8 z] w fun e w' => e = .returned (.bool true) ∧ Below w.heap.size w w' := by
  rw [val_of hx.1 hx.2, val_of hy.1 hy.2]
  exact incomp_law _ _ z hz.1 hz.2 w
theorem runs_law_at (l c f t : Int) (hf : f ≤ 9223372036854775807) (x : Int) (hx : 0 ≤ x ∧ x ≤ 18446744073709551615) (w : World) : Calls Try.prog 5 #[.int .i64 l, .int .i64 c, .int .i64 f, .int .i64 t, .int .u64 x] w fun e w' => e = .returned (.bool true) ∧ Below w.heap.size w w' := by
  rw [val_of hx.1 hx.2]
  exact runs_law l c f t _ w hf
theorem forward_law_at (p : Int) (hp : 0 ≤ p ∧ p ≤ 255) (q : Int) (hq : 0 ≤ q ∧ q ≤ 255) (r : Int) (hr : 0 ≤ r ∧ r ≤ 255) (s : Int) (hs : 0 ≤ s ∧ s ≤ 255) (t : Int) (ht : 0 ≤ t ∧ t ≤ 255) (x : Int) (hx : 0 ≤ x ∧ x ≤ 18446744073709551615) (w : World) : Calls Try.prog 6 #[.int .u8 p, .int .u8 q, .int .u8 r, .int .u8 s, .int .u8 t, .int .u64 x] w fun e w' => e = .returned (.bool true) ∧ Below w.heap.size w w' := by
  obtain ⟨p, rfl⟩ := Int.eq_ofNat_of_zero_le hp.1
  obtain ⟨q, rfl⟩ := Int.eq_ofNat_of_zero_le hq.1
  obtain ⟨r, rfl⟩ := Int.eq_ofNat_of_zero_le hr.1
  obtain ⟨s, rfl⟩ := Int.eq_ofNat_of_zero_le hs.1
  obtain ⟨t, rfl⟩ := Int.eq_ofNat_of_zero_le ht.1
  rw [val_of hx.1 hx.2]
  exact forward_law p q r s t _ w (by omega) (by omega) (by omega) (by omega) (by omega)
theorem keys_law_at (x : Int) (hx : 0 ≤ x ∧ x ≤ 18446744073709551615) (l c : Int) (w : World) : Calls Try.prog 7 #[.int .u64 x, .int .i64 l, .int .i64 c] w fun e w' => e = .returned (.bool true) ∧ Below w.heap.size w w' := by
  rw [val_of hx.1 hx.2]
  exact keys_law _ l c w
theorem back_law_at (x : Int) (hx : 0 ≤ x ∧ x ≤ 18446744073709551615) (l : Int) (y : Int) (hy : 0 ≤ y ∧ y ≤ 18446744073709551615) (w : World) : Calls Try.prog 9 #[.int .u64 x, .int .i64 l, .int .u64 y] w fun e w' => e = .returned (.bool true) ∧ Below w.heap.size w w' := by
  rw [val_of hx.1 hx.2, val_of hy.1 hy.2]
  exact back_law _ l _ w
end Go.Proofs.Ytklkddncholoiaa
