/- Trees, plain; heights, leaves' numbers and nodes of both. -/
import Derived.Test.YthgahjihgoiklaaOtK
namespace Go.Proofs.Ythgahjihgoiklaa
open Go.RowKit
set_option maxRecDepth 100000

/-- a node above two nodes -/
def nodeF (k : Int) (a b : BitVec 64) : BitVec 64 := sipHash 3 (wsBytes [BitVec.ofInt 64 k, a, b])
/-- node i at level k -/
def treeN (s : BitVec 64) : Nat → Nat → BitVec 64
  | 0, i => leafF s i
  | k + 1, i => nodeF ((k + 1 : Nat) : Int) (treeN s k (2 * i)) (treeN s k (2 * i + 1))
/-- level k of a tree of height h -/
def levelF (s : BitVec 64) (h k : Nat) : List (BitVec 64) := (List.range (2 ^ (h - k))).map (treeN s k)
theorem levelF_len (s : BitVec 64) (h k : Nat) : (levelF s h k).length = 2 ^ (h - k) := by simp [levelF]
theorem levelF_at (s : BitVec 64) (h k i : Nat) (hi : i < 2 ^ (h - k)) : (levelF s h k).getD i 0 = treeN s k i := by
  simp [levelF, List.getD, hi]

set_option maxHeartbeats 1000000 in
theorem node_any (k : Int) (a b : BitVec 64) (w : World) :
    Calls Try.prog 57 #[.int .i64 k, .int .u64 (val a), .int .u64 (val b)] w fun e w' => e = .returned (.int .u64 (val (nodeF k a b))) ∧ Below w.heap.size w w' := by
  go_enter Try.func57, Try.ntmps57
  go_wp2_with fail
  rw [val_wrap]
  refine (words_new _ [BitVec.ofInt 64 k, a, b] 3 w rfl rfl (by omega)).mono ?_
  rintro e w1 ⟨A1, cp1, rfl, h1, h2, hB1, hb1⟩
  have HB1 := Lib.hid hb1
  have hsz := hb1.size
  clear hb1
  go_wp2_with fail
  refine (hash_any 3 A1 _ cp1 _ _ hB1 h1 h2).mono ?_
  rintro e w2 ⟨rfl, hb2⟩
  go_wp2
  go_ret
  exact ⟨rfl, HB1.out.trans (hb2.mono hsz)⟩
set_option maxHeartbeats 1000000 in
theorem nodeR_any (k : Int) (a b : BitVec 64) (w : World) :
    Calls Try.prog 37 #[.int .i64 k, .int .u64 (val a), .int .u64 (val b)] w fun e w' => e = .returned (.int .u64 (val (nodeF k a b))) ∧ Below w.heap.size w w' := by
  go_enter Try.func37, Try.ntmps37
  go_wp2_with fail
  rw [val_wrap]
  refine (wordsR_new _ [BitVec.ofInt 64 k, a, b] 3 w rfl rfl (by omega)).mono ?_
  rintro e w1 ⟨A1, cp1, rfl, h1, h2, hB1, hb1⟩
  have HB1 := Lib.hid hb1
  have hsz := hb1.size
  clear hb1
  go_wp2_with fail
  refine (hashR_any 3 A1 _ cp1 _ _ hB1 (by omega)).mono ?_
  rintro e w2 ⟨rfl, hb2⟩
  go_wp2
  go_ret
  exact ⟨rfl, HB1.out.trans (hb2.mono hsz)⟩

/-- is h a height? -/
def hgtB (h : Int) : Bool := decide (0 ≤ h) && decide (h ≤ 4)
theorem hgt_any (h : Int) (w : World) : Calls Try.prog 25 #[.int .i64 h] w fun e w' => e = .returned (.bool (hgtB h)) ∧ w = w' := by
  obtain ⟨b, hb⟩ : ∃ b, hgtB h = b := ⟨_, rfl⟩
  have HB := Lib.hid hb
  rw [hb]
  clear hb
  by_cases h0 : 0 ≤ h
  · by_cases h4 : h ≤ 4
    · obtain rfl : b = true := by rw [← HB.out]; unfold hgtB; simp; omega
      go_enter Try.func25, Try.ntmps25
      go_wp2
      go_ret
      exact ⟨rfl, rfl⟩
    · obtain rfl : b = false := by rw [← HB.out]; unfold hgtB; simp; omega
      go_enter Try.func25, Try.ntmps25
      go_wp2
      go_ret
      exact ⟨rfl, rfl⟩
  · obtain rfl : b = false := by rw [← HB.out]; unfold hgtB; simp; omega
    go_enter Try.func25, Try.ntmps25
    go_wp2
    go_ret
    exact ⟨rfl, rfl⟩
theorem hgtR_any (h : Int) (w : World) : Calls Try.prog 27 #[.int .i64 h] w fun e w' => e = .returned (.bool (hgtB h)) ∧ w = w' := by
  obtain ⟨b, hb⟩ : ∃ b, hgtB h = b := ⟨_, rfl⟩
  have HB := Lib.hid hb
  rw [hb]
  clear hb
  by_cases h0 : 0 ≤ h
  · by_cases h4 : h ≤ 4
    · obtain rfl : b = true := by rw [← HB.out]; unfold hgtB; simp; omega
      go_enter Try.func27, Try.ntmps27
      go_wp2
      go_ret
      exact ⟨rfl, rfl⟩
    · obtain rfl : b = false := by rw [← HB.out]; unfold hgtB; simp; omega
      go_enter Try.func27, Try.ntmps27
      go_wp2
      go_ret
      exact ⟨rfl, rfl⟩
  · obtain rfl : b = false := by rw [← HB.out]; unfold hgtB; simp; omega
    go_enter Try.func27, Try.ntmps27
    go_wp2
    go_ret
    exact ⟨rfl, rfl⟩
end Go.Proofs.Ythgahjihgoiklaa
