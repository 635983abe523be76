/- The reference's nodes and its Public. -/
import Derived.Test.YthgahjihgoiklaaTkE
namespace Go.Proofs.Ythgahjihgoiklaa
open Go.RowKit
set_option maxRecDepth 100000

set_option maxHeartbeats 1000000 in
theorem treeR_zero (s : BitVec 64) (i : Nat) (w : World) :
    Calls Try.prog 28 #[.int .u64 (val s), .int .i64 0, .int .i64 (i : Int)] w fun e w' => e = .returned (.int .u64 (val (treeN s 0 i))) ∧ Below w.heap.size w w' := by
  go_enter Try.func28, Try.ntmps28
  go_wp2_with fail
  refine (leafR_any s i _).mono ?_
  rintro e w1 ⟨rfl, hb⟩
  go_wp2
  go_ret
  exact ⟨rfl, hb⟩
set_option maxHeartbeats 1000000 in
theorem treeR_succ (s : BitVec 64) (k i : Nat) (hk : k ≤ 4) (hi : i ≤ 100000)
    (ih : ∀ (j : Nat) (w : World), j ≤ 2 * i + 1 → Calls Try.prog 28 #[.int .u64 (val s), .int .i64 (k : Int), .int .i64 (j : Int)] w fun e w' => e = .returned (.int .u64 (val (treeN s k j))) ∧ Below w.heap.size w w') (w : World) :
    Calls Try.prog 28 #[.int .u64 (val s), .int .i64 ((k : Int) + 1), .int .i64 (i : Int)] w fun e w' => e = .returned (.int .u64 (val (treeN s (k + 1) i))) ∧ Below w.heap.size w w' := by
  have HI := Lib.hid ih
  clear ih
  have hk0 : ¬ (k : Int) + 1 = 0 := by omega
  obtain ⟨j, hj⟩ : ∃ j : Nat, j = 2 * i := ⟨_, rfl⟩
  have hjI : 2 * (i : Int) = (j : Int) := by omega
  have hjb : (j : Int) ≤ 1000000 := by omega
  have HJ := Lib.hid hj
  clear hj
  have HJ1 := HI.out j
  have HJ2 := HI.out (j + 1)
  have HC1 := Lib.hid (fun w => HJ1 w (by have := HJ.out; omega))
  have HC2 := Lib.hid (fun w => HJ2 w (by have := HJ.out; omega))
  clear HJ1 HJ2
  have hT : treeN s (k + 1) i = nodeF ((k : Int) + 1) (treeN s k j) (treeN s k (j + 1)) := by rw [HJ.out]; simp [treeN]
  have HT := Lib.hid hT
  clear hT
  go_enter Try.func28, Try.ntmps28
  go_wp2_with fail
  refine (HC1.out _).mono ?_
  rintro e w1 ⟨rfl, hb1⟩
  have HB1 := Lib.hid hb1
  have hs1 := hb1.size
  clear hb1
  go_wp2_with fail
  refine (HC2.out _).mono ?_
  rintro e w2 ⟨rfl, hb2⟩
  have HB2 := Lib.hid (HB1.out.trans (hb2.mono hs1))
  have hs2 := HB2.out.size
  clear hb2
  go_wp2_with fail
  refine (nodeR_any ((k : Int) + 1) _ _ _).mono ?_
  rintro e w3 ⟨rfl, hb3⟩
  rw [← HT.out]
  go_wp2
  go_ret
  exact ⟨rfl, HB2.out.trans (hb3.mono hs2)⟩
theorem treeR_any (s : BitVec 64) : ∀ (k i : Nat) (w : World), k ≤ 4 → i * 2 ^ k + 2 ^ k ≤ 1000 → 
    Calls Try.prog 28 #[.int .u64 (val s), .int .i64 (k : Int), .int .i64 (i : Int)] w fun e w' => e = .returned (.int .u64 (val (treeN s k i))) ∧ Below w.heap.size w w'
  | 0, i, w, _, _ => treeR_zero s i w
  | k + 1, i, w, hk, hi => by
    have hp := pow_le k (by omega)
    have hi1 : i ≤ 1000 := by
      have : i ≤ i * 2 ^ (k + 1) := Nat.le_mul_of_pos_right _ (by rw [Nat.pow_succ]; omega)
      omega
    have h := treeR_succ s k i (by omega) (by omega) (fun j w hj => treeR_any s k j w (by omega) (by
      have h1 : j * 2 ^ k + 2 ^ k ≤ (2 * i + 1) * 2 ^ k + 2 ^ k := Nat.add_le_add_right (Nat.mul_le_mul_right _ hj) _
      have h2 : (2 * i + 1) * 2 ^ k + 2 ^ k = i * 2 ^ (k + 1) + 2 ^ (k + 1) := by rw [Nat.pow_succ, Nat.add_mul, Nat.one_mul, Nat.mul_comm 2 i, Nat.mul_assoc, Nat.mul_comm 2 (2 ^ k)]; omega
      omega)) w
    simpa using h
theorem publicR_bad (s : BitVec 64) (h : Int) (hh : hgtB h = false) (w : World) :
    Calls Try.prog 11 #[.int .u64 (val s), .int .i64 h] w fun e w' => e = .returned (.tuple #[.agg #[.int .i64 0, .int .u64 0], .int .i64 9]) ∧ Below w.heap.size w w' := by
  have HH := Lib.hid hh
  clear hh
  go_enter Try.func11, Try.ntmps11
  go_wp2_with fail
  refine (hgtR_any h _).mono ?_
  rintro e w' ⟨rfl, rfl⟩
  rw [HH.out]
  go_wp2
  exact bodyPost_ret (v := .tuple #[.agg #[.int .i64 0, .int .u64 0], .int .i64 9]) (by simp [results, Try.results11, go_sem]) rfl ⟨rfl, ((Below.refl _ _).alloc (Nat.le_refl _) _)⟩
set_option maxHeartbeats 1000000 in
theorem publicR_ok (s : BitVec 64) (h : Nat) (hh : h ≤ 4) (w : World) :
    Calls Try.prog 11 #[.int .u64 (val s), .int .i64 (h : Int)] w fun e w' => e = .returned (.tuple #[.agg #[.int .i64 (h : Int), .int .u64 (val (treeN s h 0))], .int .i64 0]) ∧ Below w.heap.size w w' := by
  have HH : Hid (hgtB (h : Int) = true) := Lib.hid (by unfold hgtB; simp; omega)
  go_enter Try.func11, Try.ntmps11
  go_wp2_with fail
  refine (hgtR_any _ _).mono ?_
  rintro e w' ⟨rfl, rfl⟩
  rw [HH.out]
  go_wp2_with fail
  refine (treeR_any s h 0 _ hh (by have := pow_le h hh; omega)).mono ?_
  rintro e w1 ⟨rfl, hb1⟩
  have hc := (Cs.new w 24 [.int .i64 0, .int .u64 0]).below hb1 (by simp)
  have hB := ((Below.refl _ w).alloc (Nat.le_refl _) (.cells #[.int .i64 0, .int .u64 0] 24)).trans (hb1.mono (by simp))
  have r0 := hc.cell 0
  have r1 := hc.cell 1
  have f0 := hc.free 0
  have f1 := hc.free 1
  simp only [List.getElem?_cons_succ, List.getElem?_cons_zero] at r0 r1
  have HC := Lib.hid hc
  have HB := Lib.hid hB
  clear hc hB hb1
  go_wp2
  exact bodyPost_ret (v := .tuple #[.agg #[.int .i64 (h : Int), .int .u64 (val (treeN s h 0))], .int .i64 0]) (by simp [results, Try.results11, go_sem, r0, r1]) rfl ⟨rfl, (HB.out.setCell (Nat.le_refl _) _).setCell (Nat.le_refl _) _⟩
end Go.Proofs.Ythgahjihgoiklaa
