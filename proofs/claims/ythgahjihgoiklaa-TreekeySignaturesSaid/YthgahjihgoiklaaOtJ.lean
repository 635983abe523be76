/- The laws of layer 3, walked. -/
import Derived.Test.YthgahjihgoiklaaOtI
namespace Go.Proofs.Ythgahjihgoiklaa
open Go.RowKit
set_option maxRecDepth 100000

theorem pow_wrap (j : Nat) : IntKind.u64.wrap (2 ^ j) = val (1#64 <<< j) := by
  have h := val_shl 1#64 j
  rw [show val 1#64 = 1 from rfl, Int.one_mul] at h
  exact h
theorem wrap64_le (z : Int) : wrap64 z ≤ 9223372036854775807 := by unfold wrap64; omega

theorem runF_parts (l c : Int) (p q r : Nat) (x : BitVec 64) (h1 : p ≤ q) (h2 : q ≤ r) : runF l c q r (runF l c p q x) = runF l c p r x := by
  unfold runF
  rw [show (max (p : Int) 0).toNat = p by omega, show (max (q : Int) 0).toNat = q by omega]
  by_cases hp : p ≤ 15
  · obtain ⟨a, ha⟩ : ∃ a : Nat, (min (q : Int) 15 - max (p : Int) 0).toNat = a := ⟨_, rfl⟩
    obtain ⟨b, hb⟩ : ∃ b : Nat, (min (r : Int) 15 - max (q : Int) 0).toNat = b := ⟨_, rfl⟩
    rw [ha, hb, show (min (r : Int) 15 - max (p : Int) 0).toNat = a + b by omega, runE_add]
    by_cases hq : q ≤ 15
    · rw [show p + a = q by omega]
    · rw [show b = 0 by omega]
      rfl
  · rw [show (min (q : Int) 15 - max (p : Int) 0).toNat = 0 by omega, show (min (r : Int) 15 - max (q : Int) 0).toNat = 0 by omega, show (min (r : Int) 15 - max (p : Int) 0).toNat = 0 by omega]
    rfl

theorem runF_partsI (l c p q r : Int) (x : BitVec 64) (h0 : 0 ≤ p) (h1 : p ≤ q) (h2 : q ≤ r) : runF l c q r (runF l c p q x) = runF l c p r x := by
  obtain ⟨P, rfl⟩ := Int.eq_ofNat_of_zero_le h0
  obtain ⟨Q, rfl⟩ := Int.eq_ofNat_of_zero_le (show 0 ≤ q by omega)
  obtain ⟨R, rfl⟩ := Int.eq_ofNat_of_zero_le (show 0 ≤ r by omega)
  exact runF_parts l c P Q R x (by omega) (by omega)
theorem rec_sig (s : BitVec 64) (l : Int) (m : BitVec 64) : recF l m (vals (sigF s l m)) = leafF s l := by
  unfold recF leafF
  congr 1
  apply List.map_congr_left
  intro k hk
  have hk18 : k < 18 := by simpa using hk
  unfold recV endF
  have e : (vals (sigF s l m)).getD k 0 = sigF s l m k := by simp [vals, List.getD, hk18]
  rw [e]
  unfold sigF
  have := dig_rng m k
  exact runF_partsI l k 0 (dig m k) 15 _ (by omega) this.1 this.2

theorem i64_of_wf {z : Int} (h : (Lit.int .i64 z).wf = true) : -9223372036854775808 ≤ z ∧ z ≤ 9223372036854775807 := by
  have h1 : (decide (IntKind.i64.min ≤ z) && decide (z ≤ IntKind.i64.max)) = true := h
  simp only [Bool.and_eq_true, decide_eq_true_eq] at h1
  exact ⟨h1.1, h1.2⟩
end Go.Proofs.Ythgahjihgoiklaa
