/- Joined: E6. -/
import Derived.Test.YtepinmeidjlmmaaDoorR5
namespace Go.Proofs.YtepinmeidjlmmaaDoor
open Go.RowKit

set_option maxRecDepth 100000 in
set_option maxHeartbeats 400000 in
theorem ck3true_at (c dep : Nat) (bf : ByteArray) (n : Int) (d : ByteArray) (w : World) (hat : 512 ≤ (c : Int)) :
    Calls Tryd.prog 61 #[itemV 3 n d, .int .i64 c, .int .i64 dep, .bool true, .string bf] w (CheckPost w 8) := by
  have HB0 := Lib.hid ((Below.refl w.heap.size w).alloc (Nat.le_refl _) (.cells #[.int .i64 3, .int .u64 n, .string d] 58))
  unfold itemV
  go_enter Tryd.func61, Tryd.ntmps61
  go_wp2_with (first | (go_at_call 80; refine (within_any _ _ _ _).mono ?_; rintro e w1 ⟨rfl, rfl⟩) | (go_at_call 68; refine (isKey_any _ _).mono ?_; rintro e w1 ⟨rfl, rfl⟩) | (go_at_call 69; refine (HV.out _ (by first | exact HB0.out | exact HB0.out.drew)).mono ?_; rintro e w2 ⟨rfl, hb2⟩) | (go_at_call 38; refine (HBY.out _).mono ?_; rintro e w3 ⟨rfl, hb3⟩) | (go_at_call 70; refine (less_any _ _ _).mono ?_; rw [HL.out]; rintro e w4 ⟨rfl, rfl⟩))
  go_ret
  exact ⟨rfl, by first | exact HB0.out⟩

set_option maxRecDepth 100000 in
set_option maxHeartbeats 400000 in
theorem ck3false_at (c dep : Nat) (bf : ByteArray) (n : Int) (d : ByteArray) (w : World) (hat : 512 ≤ (c : Int)) :
    Calls Tryd.prog 61 #[itemV 3 n d, .int .i64 c, .int .i64 dep, .bool false, .string bf] w (CheckPost w 8) := by
  have HB0 := Lib.hid ((Below.refl w.heap.size w).alloc (Nat.le_refl _) (.cells #[.int .i64 3, .int .u64 n, .string d] 58))
  unfold itemV
  go_enter Tryd.func61, Tryd.ntmps61
  go_wp2_with (first | (go_at_call 80; refine (within_any _ _ _ _).mono ?_; rintro e w1 ⟨rfl, rfl⟩) | (go_at_call 68; refine (isKey_any _ _).mono ?_; rintro e w1 ⟨rfl, rfl⟩) | (go_at_call 69; refine (HV.out _ (by first | exact HB0.out | exact HB0.out.drew)).mono ?_; rintro e w2 ⟨rfl, hb2⟩) | (go_at_call 38; refine (HBY.out _).mono ?_; rintro e w3 ⟨rfl, hb3⟩) | (go_at_call 70; refine (less_any _ _ _).mono ?_; rw [HL.out]; rintro e w4 ⟨rfl, rfl⟩))
  go_ret
  exact ⟨rfl, by first | exact HB0.out⟩

set_option maxRecDepth 100000 in
set_option maxHeartbeats 400000 in
theorem ck3true_kind (c dep : Nat) (bf : ByteArray) (n : Int) (d : ByteArray) (w : World) (hat : (c : Int) < 512) :
    Calls Tryd.prog 61 #[itemV 3 n d, .int .i64 c, .int .i64 dep, .bool true, .string bf] w (CheckPost w 3) := by
  have HB0 := Lib.hid ((Below.refl w.heap.size w).alloc (Nat.le_refl _) (.cells #[.int .i64 3, .int .u64 n, .string d] 58))
  unfold itemV
  go_enter Tryd.func61, Tryd.ntmps61
  go_wp2_with (first | (go_at_call 80; refine (within_any _ _ _ _).mono ?_; rintro e w1 ⟨rfl, rfl⟩) | (go_at_call 68; refine (isKey_any _ _).mono ?_; rintro e w1 ⟨rfl, rfl⟩) | (go_at_call 69; refine (HV.out _ (by first | exact HB0.out | exact HB0.out.drew)).mono ?_; rintro e w2 ⟨rfl, hb2⟩) | (go_at_call 38; refine (HBY.out _).mono ?_; rintro e w3 ⟨rfl, hb3⟩) | (go_at_call 70; refine (less_any _ _ _).mono ?_; rw [HL.out]; rintro e w4 ⟨rfl, rfl⟩))
  go_ret
  exact ⟨rfl, by first | exact HB0.out⟩

set_option maxRecDepth 100000 in
set_option maxHeartbeats 400000 in
theorem ck3_dep (c dep : Nat) (bf : ByteArray) (n : Int) (d : ByteArray) (w : World) (hat : (c : Int) < 512) (hdep : 8 < (dep : Int)) :
    Calls Tryd.prog 61 #[itemV 3 n d, .int .i64 c, .int .i64 dep, .bool false, .string bf] w (CheckPost w 5) := by
  have HB0 := Lib.hid ((Below.refl w.heap.size w).alloc (Nat.le_refl _) (.cells #[.int .i64 3, .int .u64 n, .string d] 58))
  unfold itemV
  go_enter Tryd.func61, Tryd.ntmps61
  go_wp2_with (first | (go_at_call 80; refine (within_any _ _ _ _).mono ?_; rintro e w1 ⟨rfl, rfl⟩) | (go_at_call 68; refine (isKey_any _ _).mono ?_; rintro e w1 ⟨rfl, rfl⟩) | (go_at_call 69; refine (HV.out _ (by first | exact HB0.out | exact HB0.out.drew)).mono ?_; rintro e w2 ⟨rfl, hb2⟩) | (go_at_call 38; refine (HBY.out _).mono ?_; rintro e w3 ⟨rfl, hb3⟩) | (go_at_call 70; refine (less_any _ _ _).mono ?_; rw [HL.out]; rintro e w4 ⟨rfl, rfl⟩))
  go_ret
  exact ⟨rfl, by first | exact HB0.out⟩

set_option maxRecDepth 100000 in
set_option maxHeartbeats 400000 in
theorem ck3_num (c dep : Nat) (bf : ByteArray) (n : Int) (d : ByteArray) (w : World) (hat : (c : Int) < 512) (hdep : (dep : Int) ≤ 8) (hn : n ≠ 0) :
    Calls Tryd.prog 61 #[itemV 3 n d, .int .i64 c, .int .i64 dep, .bool false, .string bf] w (CheckPost w 4) := by
  have HB0 := Lib.hid ((Below.refl w.heap.size w).alloc (Nat.le_refl _) (.cells #[.int .i64 3, .int .u64 n, .string d] 58))
  unfold itemV
  go_enter Tryd.func61, Tryd.ntmps61
  go_wp2_with (first | (go_at_call 80; refine (within_any _ _ _ _).mono ?_; rintro e w1 ⟨rfl, rfl⟩) | (go_at_call 68; refine (isKey_any _ _).mono ?_; rintro e w1 ⟨rfl, rfl⟩) | (go_at_call 69; refine (HV.out _ (by first | exact HB0.out | exact HB0.out.drew)).mono ?_; rintro e w2 ⟨rfl, hb2⟩) | (go_at_call 38; refine (HBY.out _).mono ?_; rintro e w3 ⟨rfl, hb3⟩) | (go_at_call 70; refine (less_any _ _ _).mono ?_; rw [HL.out]; rintro e w4 ⟨rfl, rfl⟩))
  go_ret
  exact ⟨rfl, by first | exact HB0.out⟩

set_option maxRecDepth 100000 in
set_option maxHeartbeats 400000 in
theorem ck3_size (c dep : Nat) (bf : ByteArray) (d : ByteArray) (w : World) (hat : (c : Int) < 512) (hdep : (dep : Int) ≤ 8) (hsz : 1024 < (d.size : Int)) :
    Calls Tryd.prog 61 #[itemV 3 0 d, .int .i64 c, .int .i64 dep, .bool false, .string bf] w (CheckPost w 8) := by
  have HB0 := Lib.hid ((Below.refl w.heap.size w).alloc (Nat.le_refl _) (.cells #[.int .i64 3, .int .u64 0, .string d] 58))
  unfold itemV
  go_enter Tryd.func61, Tryd.ntmps61
  go_wp2_with (first | (go_at_call 80; refine (within_any _ _ _ _).mono ?_; rintro e w1 ⟨rfl, rfl⟩) | (go_at_call 68; refine (isKey_any _ _).mono ?_; rintro e w1 ⟨rfl, rfl⟩) | (go_at_call 69; refine (HV.out _ (by first | exact HB0.out | exact HB0.out.drew)).mono ?_; rintro e w2 ⟨rfl, hb2⟩) | (go_at_call 38; refine (HBY.out _).mono ?_; rintro e w3 ⟨rfl, hb3⟩) | (go_at_call 70; refine (less_any _ _ _).mono ?_; rw [HL.out]; rintro e w4 ⟨rfl, rfl⟩))
  go_ret
  exact ⟨rfl, by first | exact HB0.out⟩

set_option maxRecDepth 100000 in
set_option maxHeartbeats 400000 in
theorem ck3_ok (c dep : Nat) (bf : ByteArray) (d : ByteArray) (w : World) (hat : (c : Int) < 512) (hdep : (dep : Int) ≤ 8) (hsz : (d.size : Int) ≤ 1024) :
    Calls Tryd.prog 61 #[itemV 3 0 d, .int .i64 c, .int .i64 dep, .bool false, .string bf] w (CheckPost w 0) := by
  have HB0 := Lib.hid ((Below.refl w.heap.size w).alloc (Nat.le_refl _) (.cells #[.int .i64 3, .int .u64 0, .string d] 58))
  unfold itemV
  go_enter Tryd.func61, Tryd.ntmps61
  go_wp2_with (first | (go_at_call 80; refine (within_any _ _ _ _).mono ?_; rintro e w1 ⟨rfl, rfl⟩) | (go_at_call 68; refine (isKey_any _ _).mono ?_; rintro e w1 ⟨rfl, rfl⟩) | (go_at_call 69; refine (HV.out _ (by first | exact HB0.out | exact HB0.out.drew)).mono ?_; rintro e w2 ⟨rfl, hb2⟩) | (go_at_call 38; refine (HBY.out _).mono ?_; rintro e w3 ⟨rfl, hb3⟩) | (go_at_call 70; refine (less_any _ _ _).mono ?_; rw [HL.out]; rintro e w4 ⟨rfl, rfl⟩))
  go_ret
  exact ⟨rfl, by first | exact HB0.out⟩

set_option maxRecDepth 100000 in
set_option maxHeartbeats 400000 in
theorem ck5true_at (c dep : Nat) (bf : ByteArray) (n : Int) (d : ByteArray) (w : World) (hat : 512 ≤ (c : Int)) :
    Calls Tryd.prog 61 #[itemV 5 n d, .int .i64 c, .int .i64 dep, .bool true, .string bf] w (CheckPost w 8) := by
  have HB0 := Lib.hid ((Below.refl w.heap.size w).alloc (Nat.le_refl _) (.cells #[.int .i64 5, .int .u64 n, .string d] 58))
  unfold itemV
  go_enter Tryd.func61, Tryd.ntmps61
  go_wp2_with (first | (go_at_call 80; refine (within_any _ _ _ _).mono ?_; rintro e w1 ⟨rfl, rfl⟩) | (go_at_call 68; refine (isKey_any _ _).mono ?_; rintro e w1 ⟨rfl, rfl⟩) | (go_at_call 69; refine (HV.out _ (by first | exact HB0.out | exact HB0.out.drew)).mono ?_; rintro e w2 ⟨rfl, hb2⟩) | (go_at_call 38; refine (HBY.out _).mono ?_; rintro e w3 ⟨rfl, hb3⟩) | (go_at_call 70; refine (less_any _ _ _).mono ?_; rw [HL.out]; rintro e w4 ⟨rfl, rfl⟩))
  go_ret
  exact ⟨rfl, by first | exact HB0.out⟩

set_option maxRecDepth 100000 in
set_option maxHeartbeats 400000 in
theorem ck5false_at (c dep : Nat) (bf : ByteArray) (n : Int) (d : ByteArray) (w : World) (hat : 512 ≤ (c : Int)) :
    Calls Tryd.prog 61 #[itemV 5 n d, .int .i64 c, .int .i64 dep, .bool false, .string bf] w (CheckPost w 8) := by
  have HB0 := Lib.hid ((Below.refl w.heap.size w).alloc (Nat.le_refl _) (.cells #[.int .i64 5, .int .u64 n, .string d] 58))
  unfold itemV
  go_enter Tryd.func61, Tryd.ntmps61
  go_wp2_with (first | (go_at_call 80; refine (within_any _ _ _ _).mono ?_; rintro e w1 ⟨rfl, rfl⟩) | (go_at_call 68; refine (isKey_any _ _).mono ?_; rintro e w1 ⟨rfl, rfl⟩) | (go_at_call 69; refine (HV.out _ (by first | exact HB0.out | exact HB0.out.drew)).mono ?_; rintro e w2 ⟨rfl, hb2⟩) | (go_at_call 38; refine (HBY.out _).mono ?_; rintro e w3 ⟨rfl, hb3⟩) | (go_at_call 70; refine (less_any _ _ _).mono ?_; rw [HL.out]; rintro e w4 ⟨rfl, rfl⟩))
  go_ret
  exact ⟨rfl, by first | exact HB0.out⟩

set_option maxRecDepth 100000 in
set_option maxHeartbeats 400000 in
theorem ck5true_kind (c dep : Nat) (bf : ByteArray) (n : Int) (d : ByteArray) (w : World) (hat : (c : Int) < 512) :
    Calls Tryd.prog 61 #[itemV 5 n d, .int .i64 c, .int .i64 dep, .bool true, .string bf] w (CheckPost w 3) := by
  have HB0 := Lib.hid ((Below.refl w.heap.size w).alloc (Nat.le_refl _) (.cells #[.int .i64 5, .int .u64 n, .string d] 58))
  unfold itemV
  go_enter Tryd.func61, Tryd.ntmps61
  go_wp2_with (first | (go_at_call 80; refine (within_any _ _ _ _).mono ?_; rintro e w1 ⟨rfl, rfl⟩) | (go_at_call 68; refine (isKey_any _ _).mono ?_; rintro e w1 ⟨rfl, rfl⟩) | (go_at_call 69; refine (HV.out _ (by first | exact HB0.out | exact HB0.out.drew)).mono ?_; rintro e w2 ⟨rfl, hb2⟩) | (go_at_call 38; refine (HBY.out _).mono ?_; rintro e w3 ⟨rfl, hb3⟩) | (go_at_call 70; refine (less_any _ _ _).mono ?_; rw [HL.out]; rintro e w4 ⟨rfl, rfl⟩))
  go_ret
  exact ⟨rfl, by first | exact HB0.out⟩

set_option maxRecDepth 100000 in
set_option maxHeartbeats 400000 in
theorem ck5_dep (c dep : Nat) (bf : ByteArray) (n : Int) (d : ByteArray) (w : World) (hat : (c : Int) < 512) (hdep : 8 < (dep : Int)) :
    Calls Tryd.prog 61 #[itemV 5 n d, .int .i64 c, .int .i64 dep, .bool false, .string bf] w (CheckPost w 5) := by
  have HB0 := Lib.hid ((Below.refl w.heap.size w).alloc (Nat.le_refl _) (.cells #[.int .i64 5, .int .u64 n, .string d] 58))
  unfold itemV
  go_enter Tryd.func61, Tryd.ntmps61
  go_wp2_with (first | (go_at_call 80; refine (within_any _ _ _ _).mono ?_; rintro e w1 ⟨rfl, rfl⟩) | (go_at_call 68; refine (isKey_any _ _).mono ?_; rintro e w1 ⟨rfl, rfl⟩) | (go_at_call 69; refine (HV.out _ (by first | exact HB0.out | exact HB0.out.drew)).mono ?_; rintro e w2 ⟨rfl, hb2⟩) | (go_at_call 38; refine (HBY.out _).mono ?_; rintro e w3 ⟨rfl, hb3⟩) | (go_at_call 70; refine (less_any _ _ _).mono ?_; rw [HL.out]; rintro e w4 ⟨rfl, rfl⟩))
  go_ret
  exact ⟨rfl, by first | exact HB0.out⟩

set_option maxRecDepth 100000 in
set_option maxHeartbeats 400000 in
theorem ck5_ndata (c dep : Nat) (bf : ByteArray) (n : Int) (d : ByteArray) (w : World) (hat : (c : Int) < 512) (hdep : (dep : Int) ≤ 8) (hde : d.toList.isEmpty = false) :
    Calls Tryd.prog 61 #[itemV 5 n d, .int .i64 c, .int .i64 dep, .bool false, .string bf] w (CheckPost w 4) := by
  have HB0 := Lib.hid ((Below.refl w.heap.size w).alloc (Nat.le_refl _) (.cells #[.int .i64 5, .int .u64 n, .string d] 58))
  unfold itemV
  go_enter Tryd.func61, Tryd.ntmps61
  go_wp2_with (first | (go_at_call 80; refine (within_any _ _ _ _).mono ?_; rintro e w1 ⟨rfl, rfl⟩) | (go_at_call 68; refine (isKey_any _ _).mono ?_; rintro e w1 ⟨rfl, rfl⟩) | (go_at_call 69; refine (HV.out _ (by first | exact HB0.out | exact HB0.out.drew)).mono ?_; rintro e w2 ⟨rfl, hb2⟩) | (go_at_call 38; refine (HBY.out _).mono ?_; rintro e w3 ⟨rfl, hb3⟩) | (go_at_call 70; refine (less_any _ _ _).mono ?_; rw [HL.out]; rintro e w4 ⟨rfl, rfl⟩))
  go_ret
  exact ⟨rfl, by first | exact HB0.out⟩

set_option maxRecDepth 100000 in
set_option maxHeartbeats 400000 in
theorem ck5_size (c dep : Nat) (bf : ByteArray) (n : Int) (d : ByteArray) (w : World) (hat : (c : Int) < 512) (hdep : (dep : Int) ≤ 8) (hde : d.toList.isEmpty = true) (hn : 512 < n) :
    Calls Tryd.prog 61 #[itemV 5 n d, .int .i64 c, .int .i64 dep, .bool false, .string bf] w (CheckPost w 8) := by
  have HB0 := Lib.hid ((Below.refl w.heap.size w).alloc (Nat.le_refl _) (.cells #[.int .i64 5, .int .u64 n, .string d] 58))
  have hsz : (d.size : Int) ≤ 1024 := by have := size_of_empty hde; omega
  unfold itemV
  go_enter Tryd.func61, Tryd.ntmps61
  go_wp2_with (first | (go_at_call 80; refine (within_any _ _ _ _).mono ?_; rintro e w1 ⟨rfl, rfl⟩) | (go_at_call 68; refine (isKey_any _ _).mono ?_; rintro e w1 ⟨rfl, rfl⟩) | (go_at_call 69; refine (HV.out _ (by first | exact HB0.out | exact HB0.out.drew)).mono ?_; rintro e w2 ⟨rfl, hb2⟩) | (go_at_call 38; refine (HBY.out _).mono ?_; rintro e w3 ⟨rfl, hb3⟩) | (go_at_call 70; refine (less_any _ _ _).mono ?_; rw [HL.out]; rintro e w4 ⟨rfl, rfl⟩))
  go_ret
  exact ⟨rfl, by first | exact HB0.out⟩

set_option maxRecDepth 100000 in
set_option maxHeartbeats 400000 in
theorem ck5_ok (c dep : Nat) (bf : ByteArray) (n : Int) (d : ByteArray) (w : World) (hat : (c : Int) < 512) (hdep : (dep : Int) ≤ 8) (hde : d.toList.isEmpty = true) (hn : n ≤ 512) :
    Calls Tryd.prog 61 #[itemV 5 n d, .int .i64 c, .int .i64 dep, .bool false, .string bf] w (CheckPost w 0) := by
  have HB0 := Lib.hid ((Below.refl w.heap.size w).alloc (Nat.le_refl _) (.cells #[.int .i64 5, .int .u64 n, .string d] 58))
  have hsz : (d.size : Int) ≤ 1024 := by have := size_of_empty hde; omega
  unfold itemV
  go_enter Tryd.func61, Tryd.ntmps61
  go_wp2_with (first | (go_at_call 80; refine (within_any _ _ _ _).mono ?_; rintro e w1 ⟨rfl, rfl⟩) | (go_at_call 68; refine (isKey_any _ _).mono ?_; rintro e w1 ⟨rfl, rfl⟩) | (go_at_call 69; refine (HV.out _ (by first | exact HB0.out | exact HB0.out.drew)).mono ?_; rintro e w2 ⟨rfl, hb2⟩) | (go_at_call 38; refine (HBY.out _).mono ?_; rintro e w3 ⟨rfl, hb3⟩) | (go_at_call 70; refine (less_any _ _ _).mono ?_; rw [HL.out]; rintro e w4 ⟨rfl, rfl⟩))
  go_ret
  exact ⟨rfl, by first | exact HB0.out⟩

set_option maxRecDepth 100000 in
set_option maxHeartbeats 400000 in
theorem ck6true_at (c dep : Nat) (bf : ByteArray) (n : Int) (d : ByteArray) (w : World) (hat : 512 ≤ (c : Int)) :
    Calls Tryd.prog 61 #[itemV 6 n d, .int .i64 c, .int .i64 dep, .bool true, .string bf] w (CheckPost w 8) := by
  have HB0 := Lib.hid ((Below.refl w.heap.size w).alloc (Nat.le_refl _) (.cells #[.int .i64 6, .int .u64 n, .string d] 58))
  unfold itemV
  go_enter Tryd.func61, Tryd.ntmps61
  go_wp2_with (first | (go_at_call 80; refine (within_any _ _ _ _).mono ?_; rintro e w1 ⟨rfl, rfl⟩) | (go_at_call 68; refine (isKey_any _ _).mono ?_; rintro e w1 ⟨rfl, rfl⟩) | (go_at_call 69; refine (HV.out _ (by first | exact HB0.out | exact HB0.out.drew)).mono ?_; rintro e w2 ⟨rfl, hb2⟩) | (go_at_call 38; refine (HBY.out _).mono ?_; rintro e w3 ⟨rfl, hb3⟩) | (go_at_call 70; refine (less_any _ _ _).mono ?_; rw [HL.out]; rintro e w4 ⟨rfl, rfl⟩))
  go_ret
  exact ⟨rfl, by first | exact HB0.out⟩

set_option maxRecDepth 100000 in
set_option maxHeartbeats 400000 in
theorem ck6false_at (c dep : Nat) (bf : ByteArray) (n : Int) (d : ByteArray) (w : World) (hat : 512 ≤ (c : Int)) :
    Calls Tryd.prog 61 #[itemV 6 n d, .int .i64 c, .int .i64 dep, .bool false, .string bf] w (CheckPost w 8) := by
  have HB0 := Lib.hid ((Below.refl w.heap.size w).alloc (Nat.le_refl _) (.cells #[.int .i64 6, .int .u64 n, .string d] 58))
  unfold itemV
  go_enter Tryd.func61, Tryd.ntmps61
  go_wp2_with (first | (go_at_call 80; refine (within_any _ _ _ _).mono ?_; rintro e w1 ⟨rfl, rfl⟩) | (go_at_call 68; refine (isKey_any _ _).mono ?_; rintro e w1 ⟨rfl, rfl⟩) | (go_at_call 69; refine (HV.out _ (by first | exact HB0.out | exact HB0.out.drew)).mono ?_; rintro e w2 ⟨rfl, hb2⟩) | (go_at_call 38; refine (HBY.out _).mono ?_; rintro e w3 ⟨rfl, hb3⟩) | (go_at_call 70; refine (less_any _ _ _).mono ?_; rw [HL.out]; rintro e w4 ⟨rfl, rfl⟩))
  go_ret
  exact ⟨rfl, by first | exact HB0.out⟩

set_option maxRecDepth 100000 in
set_option maxHeartbeats 400000 in
theorem ck6true_kind (c dep : Nat) (bf : ByteArray) (n : Int) (d : ByteArray) (w : World) (hat : (c : Int) < 512) :
    Calls Tryd.prog 61 #[itemV 6 n d, .int .i64 c, .int .i64 dep, .bool true, .string bf] w (CheckPost w 3) := by
  have HB0 := Lib.hid ((Below.refl w.heap.size w).alloc (Nat.le_refl _) (.cells #[.int .i64 6, .int .u64 n, .string d] 58))
  unfold itemV
  go_enter Tryd.func61, Tryd.ntmps61
  go_wp2_with (first | (go_at_call 80; refine (within_any _ _ _ _).mono ?_; rintro e w1 ⟨rfl, rfl⟩) | (go_at_call 68; refine (isKey_any _ _).mono ?_; rintro e w1 ⟨rfl, rfl⟩) | (go_at_call 69; refine (HV.out _ (by first | exact HB0.out | exact HB0.out.drew)).mono ?_; rintro e w2 ⟨rfl, hb2⟩) | (go_at_call 38; refine (HBY.out _).mono ?_; rintro e w3 ⟨rfl, hb3⟩) | (go_at_call 70; refine (less_any _ _ _).mono ?_; rw [HL.out]; rintro e w4 ⟨rfl, rfl⟩))
  go_ret
  exact ⟨rfl, by first | exact HB0.out⟩

set_option maxRecDepth 100000 in
set_option maxHeartbeats 400000 in
theorem ck6_dep (c dep : Nat) (bf : ByteArray) (n : Int) (d : ByteArray) (w : World) (hat : (c : Int) < 512) (hdep : 8 < (dep : Int)) :
    Calls Tryd.prog 61 #[itemV 6 n d, .int .i64 c, .int .i64 dep, .bool false, .string bf] w (CheckPost w 5) := by
  have HB0 := Lib.hid ((Below.refl w.heap.size w).alloc (Nat.le_refl _) (.cells #[.int .i64 6, .int .u64 n, .string d] 58))
  unfold itemV
  go_enter Tryd.func61, Tryd.ntmps61
  go_wp2_with (first | (go_at_call 80; refine (within_any _ _ _ _).mono ?_; rintro e w1 ⟨rfl, rfl⟩) | (go_at_call 68; refine (isKey_any _ _).mono ?_; rintro e w1 ⟨rfl, rfl⟩) | (go_at_call 69; refine (HV.out _ (by first | exact HB0.out | exact HB0.out.drew)).mono ?_; rintro e w2 ⟨rfl, hb2⟩) | (go_at_call 38; refine (HBY.out _).mono ?_; rintro e w3 ⟨rfl, hb3⟩) | (go_at_call 70; refine (less_any _ _ _).mono ?_; rw [HL.out]; rintro e w4 ⟨rfl, rfl⟩))
  go_ret
  exact ⟨rfl, by first | exact HB0.out⟩

set_option maxRecDepth 100000 in
set_option maxHeartbeats 400000 in
theorem ck6_ndata (c dep : Nat) (bf : ByteArray) (n : Int) (d : ByteArray) (w : World) (hat : (c : Int) < 512) (hdep : (dep : Int) ≤ 8) (hde : d.toList.isEmpty = false) :
    Calls Tryd.prog 61 #[itemV 6 n d, .int .i64 c, .int .i64 dep, .bool false, .string bf] w (CheckPost w 4) := by
  have HB0 := Lib.hid ((Below.refl w.heap.size w).alloc (Nat.le_refl _) (.cells #[.int .i64 6, .int .u64 n, .string d] 58))
  unfold itemV
  go_enter Tryd.func61, Tryd.ntmps61
  go_wp2_with (first | (go_at_call 80; refine (within_any _ _ _ _).mono ?_; rintro e w1 ⟨rfl, rfl⟩) | (go_at_call 68; refine (isKey_any _ _).mono ?_; rintro e w1 ⟨rfl, rfl⟩) | (go_at_call 69; refine (HV.out _ (by first | exact HB0.out | exact HB0.out.drew)).mono ?_; rintro e w2 ⟨rfl, hb2⟩) | (go_at_call 38; refine (HBY.out _).mono ?_; rintro e w3 ⟨rfl, hb3⟩) | (go_at_call 70; refine (less_any _ _ _).mono ?_; rw [HL.out]; rintro e w4 ⟨rfl, rfl⟩))
  go_ret
  exact ⟨rfl, by first | exact HB0.out⟩

set_option maxRecDepth 100000 in
set_option maxHeartbeats 400000 in
theorem ck6_size (c dep : Nat) (bf : ByteArray) (n : Int) (d : ByteArray) (w : World) (hat : (c : Int) < 512) (hdep : (dep : Int) ≤ 8) (hde : d.toList.isEmpty = true) (hn : 512 < n) :
    Calls Tryd.prog 61 #[itemV 6 n d, .int .i64 c, .int .i64 dep, .bool false, .string bf] w (CheckPost w 8) := by
  have HB0 := Lib.hid ((Below.refl w.heap.size w).alloc (Nat.le_refl _) (.cells #[.int .i64 6, .int .u64 n, .string d] 58))
  have hsz : (d.size : Int) ≤ 1024 := by have := size_of_empty hde; omega
  unfold itemV
  go_enter Tryd.func61, Tryd.ntmps61
  go_wp2_with (first | (go_at_call 80; refine (within_any _ _ _ _).mono ?_; rintro e w1 ⟨rfl, rfl⟩) | (go_at_call 68; refine (isKey_any _ _).mono ?_; rintro e w1 ⟨rfl, rfl⟩) | (go_at_call 69; refine (HV.out _ (by first | exact HB0.out | exact HB0.out.drew)).mono ?_; rintro e w2 ⟨rfl, hb2⟩) | (go_at_call 38; refine (HBY.out _).mono ?_; rintro e w3 ⟨rfl, hb3⟩) | (go_at_call 70; refine (less_any _ _ _).mono ?_; rw [HL.out]; rintro e w4 ⟨rfl, rfl⟩))
  go_ret
  exact ⟨rfl, by first | exact HB0.out⟩

set_option maxRecDepth 100000 in
set_option maxHeartbeats 400000 in
theorem ck6_ok (c dep : Nat) (bf : ByteArray) (n : Int) (d : ByteArray) (w : World) (hat : (c : Int) < 512) (hdep : (dep : Int) ≤ 8) (hde : d.toList.isEmpty = true) (hn : n ≤ 512) :
    Calls Tryd.prog 61 #[itemV 6 n d, .int .i64 c, .int .i64 dep, .bool false, .string bf] w (CheckPost w 0) := by
  have HB0 := Lib.hid ((Below.refl w.heap.size w).alloc (Nat.le_refl _) (.cells #[.int .i64 6, .int .u64 n, .string d] 58))
  have hsz : (d.size : Int) ≤ 1024 := by have := size_of_empty hde; omega
  unfold itemV
  go_enter Tryd.func61, Tryd.ntmps61
  go_wp2_with (first | (go_at_call 80; refine (within_any _ _ _ _).mono ?_; rintro e w1 ⟨rfl, rfl⟩) | (go_at_call 68; refine (isKey_any _ _).mono ?_; rintro e w1 ⟨rfl, rfl⟩) | (go_at_call 69; refine (HV.out _ (by first | exact HB0.out | exact HB0.out.drew)).mono ?_; rintro e w2 ⟨rfl, hb2⟩) | (go_at_call 38; refine (HBY.out _).mono ?_; rintro e w3 ⟨rfl, hb3⟩) | (go_at_call 70; refine (less_any _ _ _).mono ?_; rw [HL.out]; rintro e w4 ⟨rfl, rfl⟩))
  go_ret
  exact ⟨rfl, by first | exact HB0.out⟩

set_option maxRecDepth 100000 in
set_option maxHeartbeats 400000 in
theorem ck7true_at (c dep : Nat) (bf : ByteArray) (n : Int) (d : ByteArray) (w : World) (hat : 512 ≤ (c : Int)) :
    Calls Tryd.prog 61 #[itemV 7 n d, .int .i64 c, .int .i64 dep, .bool true, .string bf] w (CheckPost w 8) := by
  have HB0 := Lib.hid ((Below.refl w.heap.size w).alloc (Nat.le_refl _) (.cells #[.int .i64 7, .int .u64 n, .string d] 58))
  unfold itemV
  go_enter Tryd.func61, Tryd.ntmps61
  go_wp2_with (first | (go_at_call 80; refine (within_any _ _ _ _).mono ?_; rintro e w1 ⟨rfl, rfl⟩) | (go_at_call 68; refine (isKey_any _ _).mono ?_; rintro e w1 ⟨rfl, rfl⟩) | (go_at_call 69; refine (HV.out _ (by first | exact HB0.out | exact HB0.out.drew)).mono ?_; rintro e w2 ⟨rfl, hb2⟩) | (go_at_call 38; refine (HBY.out _).mono ?_; rintro e w3 ⟨rfl, hb3⟩) | (go_at_call 70; refine (less_any _ _ _).mono ?_; rw [HL.out]; rintro e w4 ⟨rfl, rfl⟩))
  go_ret
  exact ⟨rfl, by first | exact HB0.out⟩

set_option maxRecDepth 100000 in
set_option maxHeartbeats 400000 in
theorem ck7false_at (c dep : Nat) (bf : ByteArray) (n : Int) (d : ByteArray) (w : World) (hat : 512 ≤ (c : Int)) :
    Calls Tryd.prog 61 #[itemV 7 n d, .int .i64 c, .int .i64 dep, .bool false, .string bf] w (CheckPost w 8) := by
  have HB0 := Lib.hid ((Below.refl w.heap.size w).alloc (Nat.le_refl _) (.cells #[.int .i64 7, .int .u64 n, .string d] 58))
  unfold itemV
  go_enter Tryd.func61, Tryd.ntmps61
  go_wp2_with (first | (go_at_call 80; refine (within_any _ _ _ _).mono ?_; rintro e w1 ⟨rfl, rfl⟩) | (go_at_call 68; refine (isKey_any _ _).mono ?_; rintro e w1 ⟨rfl, rfl⟩) | (go_at_call 69; refine (HV.out _ (by first | exact HB0.out | exact HB0.out.drew)).mono ?_; rintro e w2 ⟨rfl, hb2⟩) | (go_at_call 38; refine (HBY.out _).mono ?_; rintro e w3 ⟨rfl, hb3⟩) | (go_at_call 70; refine (less_any _ _ _).mono ?_; rw [HL.out]; rintro e w4 ⟨rfl, rfl⟩))
  go_ret
  exact ⟨rfl, by first | exact HB0.out⟩

set_option maxRecDepth 100000 in
set_option maxHeartbeats 400000 in
theorem ck7true_kind (c dep : Nat) (bf : ByteArray) (n : Int) (d : ByteArray) (w : World) (hat : (c : Int) < 512) :
    Calls Tryd.prog 61 #[itemV 7 n d, .int .i64 c, .int .i64 dep, .bool true, .string bf] w (CheckPost w 3) := by
  have HB0 := Lib.hid ((Below.refl w.heap.size w).alloc (Nat.le_refl _) (.cells #[.int .i64 7, .int .u64 n, .string d] 58))
  unfold itemV
  go_enter Tryd.func61, Tryd.ntmps61
  go_wp2_with (first | (go_at_call 80; refine (within_any _ _ _ _).mono ?_; rintro e w1 ⟨rfl, rfl⟩) | (go_at_call 68; refine (isKey_any _ _).mono ?_; rintro e w1 ⟨rfl, rfl⟩) | (go_at_call 69; refine (HV.out _ (by first | exact HB0.out | exact HB0.out.drew)).mono ?_; rintro e w2 ⟨rfl, hb2⟩) | (go_at_call 38; refine (HBY.out _).mono ?_; rintro e w3 ⟨rfl, hb3⟩) | (go_at_call 70; refine (less_any _ _ _).mono ?_; rw [HL.out]; rintro e w4 ⟨rfl, rfl⟩))
  go_ret
  exact ⟨rfl, by first | exact HB0.out⟩

set_option maxRecDepth 100000 in
set_option maxHeartbeats 400000 in
theorem ck7_dep (c dep : Nat) (bf : ByteArray) (n : Int) (d : ByteArray) (w : World) (hat : (c : Int) < 512) (hdep : 8 < (dep : Int)) :
    Calls Tryd.prog 61 #[itemV 7 n d, .int .i64 c, .int .i64 dep, .bool false, .string bf] w (CheckPost w 5) := by
  have HB0 := Lib.hid ((Below.refl w.heap.size w).alloc (Nat.le_refl _) (.cells #[.int .i64 7, .int .u64 n, .string d] 58))
  unfold itemV
  go_enter Tryd.func61, Tryd.ntmps61
  go_wp2_with (first | (go_at_call 80; refine (within_any _ _ _ _).mono ?_; rintro e w1 ⟨rfl, rfl⟩) | (go_at_call 68; refine (isKey_any _ _).mono ?_; rintro e w1 ⟨rfl, rfl⟩) | (go_at_call 69; refine (HV.out _ (by first | exact HB0.out | exact HB0.out.drew)).mono ?_; rintro e w2 ⟨rfl, hb2⟩) | (go_at_call 38; refine (HBY.out _).mono ?_; rintro e w3 ⟨rfl, hb3⟩) | (go_at_call 70; refine (less_any _ _ _).mono ?_; rw [HL.out]; rintro e w4 ⟨rfl, rfl⟩))
  go_ret
  exact ⟨rfl, by first | exact HB0.out⟩

set_option maxRecDepth 100000 in
set_option maxHeartbeats 400000 in
theorem ck7_num (c dep : Nat) (bf : ByteArray) (n : Int) (d : ByteArray) (w : World) (hat : (c : Int) < 512) (hdep : (dep : Int) ≤ 8) (hn : 1 < n) :
    Calls Tryd.prog 61 #[itemV 7 n d, .int .i64 c, .int .i64 dep, .bool false, .string bf] w (CheckPost w 4) := by
  have HB0 := Lib.hid ((Below.refl w.heap.size w).alloc (Nat.le_refl _) (.cells #[.int .i64 7, .int .u64 n, .string d] 58))
  unfold itemV
  go_enter Tryd.func61, Tryd.ntmps61
  go_wp2_with (first | (go_at_call 80; refine (within_any _ _ _ _).mono ?_; rintro e w1 ⟨rfl, rfl⟩) | (go_at_call 68; refine (isKey_any _ _).mono ?_; rintro e w1 ⟨rfl, rfl⟩) | (go_at_call 69; refine (HV.out _ (by first | exact HB0.out | exact HB0.out.drew)).mono ?_; rintro e w2 ⟨rfl, hb2⟩) | (go_at_call 38; refine (HBY.out _).mono ?_; rintro e w3 ⟨rfl, hb3⟩) | (go_at_call 70; refine (less_any _ _ _).mono ?_; rw [HL.out]; rintro e w4 ⟨rfl, rfl⟩))
  go_ret
  exact ⟨rfl, by first | exact HB0.out⟩

set_option maxRecDepth 100000 in
set_option maxHeartbeats 400000 in
theorem ck7_ndata (c dep : Nat) (bf : ByteArray) (n : Int) (d : ByteArray) (w : World) (hat : (c : Int) < 512) (hdep : (dep : Int) ≤ 8) (hn : n ≤ 1) (hde : d.toList.isEmpty = false) :
    Calls Tryd.prog 61 #[itemV 7 n d, .int .i64 c, .int .i64 dep, .bool false, .string bf] w (CheckPost w 4) := by
  have HB0 := Lib.hid ((Below.refl w.heap.size w).alloc (Nat.le_refl _) (.cells #[.int .i64 7, .int .u64 n, .string d] 58))
  unfold itemV
  go_enter Tryd.func61, Tryd.ntmps61
  go_wp2_with (first | (go_at_call 80; refine (within_any _ _ _ _).mono ?_; rintro e w1 ⟨rfl, rfl⟩) | (go_at_call 68; refine (isKey_any _ _).mono ?_; rintro e w1 ⟨rfl, rfl⟩) | (go_at_call 69; refine (HV.out _ (by first | exact HB0.out | exact HB0.out.drew)).mono ?_; rintro e w2 ⟨rfl, hb2⟩) | (go_at_call 38; refine (HBY.out _).mono ?_; rintro e w3 ⟨rfl, hb3⟩) | (go_at_call 70; refine (less_any _ _ _).mono ?_; rw [HL.out]; rintro e w4 ⟨rfl, rfl⟩))
  go_ret
  exact ⟨rfl, by first | exact HB0.out⟩

set_option maxRecDepth 100000 in
set_option maxHeartbeats 400000 in
theorem ck7_ok (c dep : Nat) (bf : ByteArray) (n : Int) (d : ByteArray) (w : World) (hat : (c : Int) < 512) (hdep : (dep : Int) ≤ 8) (hn : n ≤ 1) (hde : d.toList.isEmpty = true) :
    Calls Tryd.prog 61 #[itemV 7 n d, .int .i64 c, .int .i64 dep, .bool false, .string bf] w (CheckPost w 0) := by
  have HB0 := Lib.hid ((Below.refl w.heap.size w).alloc (Nat.le_refl _) (.cells #[.int .i64 7, .int .u64 n, .string d] 58))
  have hsz : (d.size : Int) ≤ 1024 := by have := size_of_empty hde; omega
  unfold itemV
  go_enter Tryd.func61, Tryd.ntmps61
  go_wp2_with (first | (go_at_call 80; refine (within_any _ _ _ _).mono ?_; rintro e w1 ⟨rfl, rfl⟩) | (go_at_call 68; refine (isKey_any _ _).mono ?_; rintro e w1 ⟨rfl, rfl⟩) | (go_at_call 69; refine (HV.out _ (by first | exact HB0.out | exact HB0.out.drew)).mono ?_; rintro e w2 ⟨rfl, hb2⟩) | (go_at_call 38; refine (HBY.out _).mono ?_; rintro e w3 ⟨rfl, hb3⟩) | (go_at_call 70; refine (less_any _ _ _).mono ?_; rw [HL.out]; rintro e w4 ⟨rfl, rfl⟩))
  go_ret
  exact ⟨rfl, by first | exact HB0.out⟩

set_option maxRecDepth 100000 in
set_option maxHeartbeats 400000 in
theorem ck8true_at (c dep : Nat) (bf : ByteArray) (n : Int) (d : ByteArray) (w : World) (hat : 512 ≤ (c : Int)) :
    Calls Tryd.prog 61 #[itemV 8 n d, .int .i64 c, .int .i64 dep, .bool true, .string bf] w (CheckPost w 8) := by
  have HB0 := Lib.hid ((Below.refl w.heap.size w).alloc (Nat.le_refl _) (.cells #[.int .i64 8, .int .u64 n, .string d] 58))
  unfold itemV
  go_enter Tryd.func61, Tryd.ntmps61
  go_wp2_with (first | (go_at_call 80; refine (within_any _ _ _ _).mono ?_; rintro e w1 ⟨rfl, rfl⟩) | (go_at_call 68; refine (isKey_any _ _).mono ?_; rintro e w1 ⟨rfl, rfl⟩) | (go_at_call 69; refine (HV.out _ (by first | exact HB0.out | exact HB0.out.drew)).mono ?_; rintro e w2 ⟨rfl, hb2⟩) | (go_at_call 38; refine (HBY.out _).mono ?_; rintro e w3 ⟨rfl, hb3⟩) | (go_at_call 70; refine (less_any _ _ _).mono ?_; rw [HL.out]; rintro e w4 ⟨rfl, rfl⟩))
  go_ret
  exact ⟨rfl, by first | exact HB0.out⟩

set_option maxRecDepth 100000 in
set_option maxHeartbeats 400000 in
theorem ck8false_at (c dep : Nat) (bf : ByteArray) (n : Int) (d : ByteArray) (w : World) (hat : 512 ≤ (c : Int)) :
    Calls Tryd.prog 61 #[itemV 8 n d, .int .i64 c, .int .i64 dep, .bool false, .string bf] w (CheckPost w 8) := by
  have HB0 := Lib.hid ((Below.refl w.heap.size w).alloc (Nat.le_refl _) (.cells #[.int .i64 8, .int .u64 n, .string d] 58))
  unfold itemV
  go_enter Tryd.func61, Tryd.ntmps61
  go_wp2_with (first | (go_at_call 80; refine (within_any _ _ _ _).mono ?_; rintro e w1 ⟨rfl, rfl⟩) | (go_at_call 68; refine (isKey_any _ _).mono ?_; rintro e w1 ⟨rfl, rfl⟩) | (go_at_call 69; refine (HV.out _ (by first | exact HB0.out | exact HB0.out.drew)).mono ?_; rintro e w2 ⟨rfl, hb2⟩) | (go_at_call 38; refine (HBY.out _).mono ?_; rintro e w3 ⟨rfl, hb3⟩) | (go_at_call 70; refine (less_any _ _ _).mono ?_; rw [HL.out]; rintro e w4 ⟨rfl, rfl⟩))
  go_ret
  exact ⟨rfl, by first | exact HB0.out⟩

set_option maxRecDepth 100000 in
set_option maxHeartbeats 400000 in
theorem ck8true_kind (c dep : Nat) (bf : ByteArray) (n : Int) (d : ByteArray) (w : World) (hat : (c : Int) < 512) :
    Calls Tryd.prog 61 #[itemV 8 n d, .int .i64 c, .int .i64 dep, .bool true, .string bf] w (CheckPost w 3) := by
  have HB0 := Lib.hid ((Below.refl w.heap.size w).alloc (Nat.le_refl _) (.cells #[.int .i64 8, .int .u64 n, .string d] 58))
  unfold itemV
  go_enter Tryd.func61, Tryd.ntmps61
  go_wp2_with (first | (go_at_call 80; refine (within_any _ _ _ _).mono ?_; rintro e w1 ⟨rfl, rfl⟩) | (go_at_call 68; refine (isKey_any _ _).mono ?_; rintro e w1 ⟨rfl, rfl⟩) | (go_at_call 69; refine (HV.out _ (by first | exact HB0.out | exact HB0.out.drew)).mono ?_; rintro e w2 ⟨rfl, hb2⟩) | (go_at_call 38; refine (HBY.out _).mono ?_; rintro e w3 ⟨rfl, hb3⟩) | (go_at_call 70; refine (less_any _ _ _).mono ?_; rw [HL.out]; rintro e w4 ⟨rfl, rfl⟩))
  go_ret
  exact ⟨rfl, by first | exact HB0.out⟩

set_option maxRecDepth 100000 in
set_option maxHeartbeats 400000 in
theorem ck8_dep (c dep : Nat) (bf : ByteArray) (n : Int) (d : ByteArray) (w : World) (hat : (c : Int) < 512) (hdep : 8 < (dep : Int)) :
    Calls Tryd.prog 61 #[itemV 8 n d, .int .i64 c, .int .i64 dep, .bool false, .string bf] w (CheckPost w 5) := by
  have HB0 := Lib.hid ((Below.refl w.heap.size w).alloc (Nat.le_refl _) (.cells #[.int .i64 8, .int .u64 n, .string d] 58))
  unfold itemV
  go_enter Tryd.func61, Tryd.ntmps61
  go_wp2_with (first | (go_at_call 80; refine (within_any _ _ _ _).mono ?_; rintro e w1 ⟨rfl, rfl⟩) | (go_at_call 68; refine (isKey_any _ _).mono ?_; rintro e w1 ⟨rfl, rfl⟩) | (go_at_call 69; refine (HV.out _ (by first | exact HB0.out | exact HB0.out.drew)).mono ?_; rintro e w2 ⟨rfl, hb2⟩) | (go_at_call 38; refine (HBY.out _).mono ?_; rintro e w3 ⟨rfl, hb3⟩) | (go_at_call 70; refine (less_any _ _ _).mono ?_; rw [HL.out]; rintro e w4 ⟨rfl, rfl⟩))
  go_ret
  exact ⟨rfl, by first | exact HB0.out⟩

set_option maxRecDepth 100000 in
set_option maxHeartbeats 400000 in
theorem ck8_num (c dep : Nat) (bf : ByteArray) (n : Int) (d : ByteArray) (w : World) (hat : (c : Int) < 512) (hdep : (dep : Int) ≤ 8) (hn : n ≠ 0) :
    Calls Tryd.prog 61 #[itemV 8 n d, .int .i64 c, .int .i64 dep, .bool false, .string bf] w (CheckPost w 4) := by
  have HB0 := Lib.hid ((Below.refl w.heap.size w).alloc (Nat.le_refl _) (.cells #[.int .i64 8, .int .u64 n, .string d] 58))
  unfold itemV
  go_enter Tryd.func61, Tryd.ntmps61
  go_wp2_with (first | (go_at_call 80; refine (within_any _ _ _ _).mono ?_; rintro e w1 ⟨rfl, rfl⟩) | (go_at_call 68; refine (isKey_any _ _).mono ?_; rintro e w1 ⟨rfl, rfl⟩) | (go_at_call 69; refine (HV.out _ (by first | exact HB0.out | exact HB0.out.drew)).mono ?_; rintro e w2 ⟨rfl, hb2⟩) | (go_at_call 38; refine (HBY.out _).mono ?_; rintro e w3 ⟨rfl, hb3⟩) | (go_at_call 70; refine (less_any _ _ _).mono ?_; rw [HL.out]; rintro e w4 ⟨rfl, rfl⟩))
  go_ret
  exact ⟨rfl, by first | exact HB0.out⟩

set_option maxRecDepth 100000 in
set_option maxHeartbeats 400000 in
theorem ck8_ndata (c dep : Nat) (bf : ByteArray) (d : ByteArray) (w : World) (hat : (c : Int) < 512) (hdep : (dep : Int) ≤ 8) (hde : d.toList.isEmpty = false) :
    Calls Tryd.prog 61 #[itemV 8 0 d, .int .i64 c, .int .i64 dep, .bool false, .string bf] w (CheckPost w 4) := by
  have HB0 := Lib.hid ((Below.refl w.heap.size w).alloc (Nat.le_refl _) (.cells #[.int .i64 8, .int .u64 0, .string d] 58))
  unfold itemV
  go_enter Tryd.func61, Tryd.ntmps61
  go_wp2_with (first | (go_at_call 80; refine (within_any _ _ _ _).mono ?_; rintro e w1 ⟨rfl, rfl⟩) | (go_at_call 68; refine (isKey_any _ _).mono ?_; rintro e w1 ⟨rfl, rfl⟩) | (go_at_call 69; refine (HV.out _ (by first | exact HB0.out | exact HB0.out.drew)).mono ?_; rintro e w2 ⟨rfl, hb2⟩) | (go_at_call 38; refine (HBY.out _).mono ?_; rintro e w3 ⟨rfl, hb3⟩) | (go_at_call 70; refine (less_any _ _ _).mono ?_; rw [HL.out]; rintro e w4 ⟨rfl, rfl⟩))
  go_ret
  exact ⟨rfl, by first | exact HB0.out⟩

set_option maxRecDepth 100000 in
set_option maxHeartbeats 400000 in
theorem ck8_ok (c dep : Nat) (bf : ByteArray) (d : ByteArray) (w : World) (hat : (c : Int) < 512) (hdep : (dep : Int) ≤ 8) (hde : d.toList.isEmpty = true) :
    Calls Tryd.prog 61 #[itemV 8 0 d, .int .i64 c, .int .i64 dep, .bool false, .string bf] w (CheckPost w 0) := by
  have HB0 := Lib.hid ((Below.refl w.heap.size w).alloc (Nat.le_refl _) (.cells #[.int .i64 8, .int .u64 0, .string d] 58))
  have hsz : (d.size : Int) ≤ 1024 := by have := size_of_empty hde; omega
  unfold itemV
  go_enter Tryd.func61, Tryd.ntmps61
  go_wp2_with (first | (go_at_call 80; refine (within_any _ _ _ _).mono ?_; rintro e w1 ⟨rfl, rfl⟩) | (go_at_call 68; refine (isKey_any _ _).mono ?_; rintro e w1 ⟨rfl, rfl⟩) | (go_at_call 69; refine (HV.out _ (by first | exact HB0.out | exact HB0.out.drew)).mono ?_; rintro e w2 ⟨rfl, hb2⟩) | (go_at_call 38; refine (HBY.out _).mono ?_; rintro e w3 ⟨rfl, hb3⟩) | (go_at_call 70; refine (less_any _ _ _).mono ?_; rw [HL.out]; rintro e w4 ⟨rfl, rfl⟩))
  go_ret
  exact ⟨rfl, by first | exact HB0.out⟩

set_option maxRecDepth 100000 in
set_option maxHeartbeats 400000 in
theorem cklotrue_at (c dep : Nat) (bf : ByteArray) (k : Int) (n : Int) (d : ByteArray) (w : World) (h3 : (k == 3) = false) (h4 : (k == 4) = false) (h5 : (k == 5) = false) (h6 : (k == 6) = false) (hk : k < 1) (hat : 512 ≤ (c : Int)) :
    Calls Tryd.prog 61 #[itemV k n d, .int .i64 c, .int .i64 dep, .bool true, .string bf] w (CheckPost w 8) := by
  have HB0 := Lib.hid ((Below.refl w.heap.size w).alloc (Nat.le_refl _) (.cells #[.int .i64 k, .int .u64 n, .string d] 58))
  have hk2 : ¬ 1 ≤ k := by omega
  unfold itemV
  go_enter Tryd.func61, Tryd.ntmps61
  go_wp2_with (first | (go_at_call 80; refine (within_any _ _ _ _).mono ?_; rintro e w1 ⟨rfl, rfl⟩) | (go_at_call 68; refine (isKey_any _ _).mono ?_; rintro e w1 ⟨rfl, rfl⟩) | (go_at_call 69; refine (HV.out _ (by first | exact HB0.out | exact HB0.out.drew)).mono ?_; rintro e w2 ⟨rfl, hb2⟩) | (go_at_call 38; refine (HBY.out _).mono ?_; rintro e w3 ⟨rfl, hb3⟩) | (go_at_call 70; refine (less_any _ _ _).mono ?_; rw [HL.out]; rintro e w4 ⟨rfl, rfl⟩))
  go_ret
  exact ⟨rfl, by first | exact HB0.out⟩

set_option maxRecDepth 100000 in
set_option maxHeartbeats 400000 in
theorem cklotrue_kind (c dep : Nat) (bf : ByteArray) (k : Int) (n : Int) (d : ByteArray) (w : World) (h3 : (k == 3) = false) (h4 : (k == 4) = false) (h5 : (k == 5) = false) (h6 : (k == 6) = false) (hk : k < 1) (hat : (c : Int) < 512) :
    Calls Tryd.prog 61 #[itemV k n d, .int .i64 c, .int .i64 dep, .bool true, .string bf] w (CheckPost w 3) := by
  have HB0 := Lib.hid ((Below.refl w.heap.size w).alloc (Nat.le_refl _) (.cells #[.int .i64 k, .int .u64 n, .string d] 58))
  have hk2 : ¬ 1 ≤ k := by omega
  unfold itemV
  go_enter Tryd.func61, Tryd.ntmps61
  go_wp2_with (first | (go_at_call 80; refine (within_any _ _ _ _).mono ?_; rintro e w1 ⟨rfl, rfl⟩) | (go_at_call 68; refine (isKey_any _ _).mono ?_; rintro e w1 ⟨rfl, rfl⟩) | (go_at_call 69; refine (HV.out _ (by first | exact HB0.out | exact HB0.out.drew)).mono ?_; rintro e w2 ⟨rfl, hb2⟩) | (go_at_call 38; refine (HBY.out _).mono ?_; rintro e w3 ⟨rfl, hb3⟩) | (go_at_call 70; refine (less_any _ _ _).mono ?_; rw [HL.out]; rintro e w4 ⟨rfl, rfl⟩))
  go_ret
  exact ⟨rfl, by first | exact HB0.out⟩

set_option maxRecDepth 100000 in
set_option maxHeartbeats 400000 in
theorem cklofalse_at (c dep : Nat) (bf : ByteArray) (k : Int) (n : Int) (d : ByteArray) (w : World) (h3 : (k == 3) = false) (h4 : (k == 4) = false) (h5 : (k == 5) = false) (h6 : (k == 6) = false) (hk : k < 1) (hat : 512 ≤ (c : Int)) :
    Calls Tryd.prog 61 #[itemV k n d, .int .i64 c, .int .i64 dep, .bool false, .string bf] w (CheckPost w 8) := by
  have HB0 := Lib.hid ((Below.refl w.heap.size w).alloc (Nat.le_refl _) (.cells #[.int .i64 k, .int .u64 n, .string d] 58))
  have hk2 : ¬ 1 ≤ k := by omega
  unfold itemV
  go_enter Tryd.func61, Tryd.ntmps61
  go_wp2_with (first | (go_at_call 80; refine (within_any _ _ _ _).mono ?_; rintro e w1 ⟨rfl, rfl⟩) | (go_at_call 68; refine (isKey_any _ _).mono ?_; rintro e w1 ⟨rfl, rfl⟩) | (go_at_call 69; refine (HV.out _ (by first | exact HB0.out | exact HB0.out.drew)).mono ?_; rintro e w2 ⟨rfl, hb2⟩) | (go_at_call 38; refine (HBY.out _).mono ?_; rintro e w3 ⟨rfl, hb3⟩) | (go_at_call 70; refine (less_any _ _ _).mono ?_; rw [HL.out]; rintro e w4 ⟨rfl, rfl⟩))
  go_ret
  exact ⟨rfl, by first | exact HB0.out⟩

set_option maxRecDepth 100000 in
set_option maxHeartbeats 400000 in
theorem cklofalse_kind (c dep : Nat) (bf : ByteArray) (k : Int) (n : Int) (d : ByteArray) (w : World) (h3 : (k == 3) = false) (h4 : (k == 4) = false) (h5 : (k == 5) = false) (h6 : (k == 6) = false) (hk : k < 1) (hat : (c : Int) < 512) :
    Calls Tryd.prog 61 #[itemV k n d, .int .i64 c, .int .i64 dep, .bool false, .string bf] w (CheckPost w 3) := by
  have HB0 := Lib.hid ((Below.refl w.heap.size w).alloc (Nat.le_refl _) (.cells #[.int .i64 k, .int .u64 n, .string d] 58))
  have hk2 : ¬ 1 ≤ k := by omega
  unfold itemV
  go_enter Tryd.func61, Tryd.ntmps61
  go_wp2_with (first | (go_at_call 80; refine (within_any _ _ _ _).mono ?_; rintro e w1 ⟨rfl, rfl⟩) | (go_at_call 68; refine (isKey_any _ _).mono ?_; rintro e w1 ⟨rfl, rfl⟩) | (go_at_call 69; refine (HV.out _ (by first | exact HB0.out | exact HB0.out.drew)).mono ?_; rintro e w2 ⟨rfl, hb2⟩) | (go_at_call 38; refine (HBY.out _).mono ?_; rintro e w3 ⟨rfl, hb3⟩) | (go_at_call 70; refine (less_any _ _ _).mono ?_; rw [HL.out]; rintro e w4 ⟨rfl, rfl⟩))
  go_ret
  exact ⟨rfl, by first | exact HB0.out⟩

set_option maxRecDepth 100000 in
set_option maxHeartbeats 400000 in
theorem ckhitrue_at (c dep : Nat) (bf : ByteArray) (k : Int) (n : Int) (d : ByteArray) (w : World) (h3 : (k == 3) = false) (h4 : (k == 4) = false) (h5 : (k == 5) = false) (h6 : (k == 6) = false) (hk : 8 < k) (hat : 512 ≤ (c : Int)) :
    Calls Tryd.prog 61 #[itemV k n d, .int .i64 c, .int .i64 dep, .bool true, .string bf] w (CheckPost w 8) := by
  have HB0 := Lib.hid ((Below.refl w.heap.size w).alloc (Nat.le_refl _) (.cells #[.int .i64 k, .int .u64 n, .string d] 58))
  have hk2 : ¬ k ≤ 8 := by omega
  have hk3 : 1 ≤ k := by omega
  unfold itemV
  go_enter Tryd.func61, Tryd.ntmps61
  go_wp2_with (first | (go_at_call 80; refine (within_any _ _ _ _).mono ?_; rintro e w1 ⟨rfl, rfl⟩) | (go_at_call 68; refine (isKey_any _ _).mono ?_; rintro e w1 ⟨rfl, rfl⟩) | (go_at_call 69; refine (HV.out _ (by first | exact HB0.out | exact HB0.out.drew)).mono ?_; rintro e w2 ⟨rfl, hb2⟩) | (go_at_call 38; refine (HBY.out _).mono ?_; rintro e w3 ⟨rfl, hb3⟩) | (go_at_call 70; refine (less_any _ _ _).mono ?_; rw [HL.out]; rintro e w4 ⟨rfl, rfl⟩))
  go_ret
  exact ⟨rfl, by first | exact HB0.out⟩

set_option maxRecDepth 100000 in
set_option maxHeartbeats 400000 in
theorem ckhitrue_kind (c dep : Nat) (bf : ByteArray) (k : Int) (n : Int) (d : ByteArray) (w : World) (h3 : (k == 3) = false) (h4 : (k == 4) = false) (h5 : (k == 5) = false) (h6 : (k == 6) = false) (hk : 8 < k) (hat : (c : Int) < 512) :
    Calls Tryd.prog 61 #[itemV k n d, .int .i64 c, .int .i64 dep, .bool true, .string bf] w (CheckPost w 3) := by
  have HB0 := Lib.hid ((Below.refl w.heap.size w).alloc (Nat.le_refl _) (.cells #[.int .i64 k, .int .u64 n, .string d] 58))
  have hk2 : ¬ k ≤ 8 := by omega
  have hk3 : 1 ≤ k := by omega
  unfold itemV
  go_enter Tryd.func61, Tryd.ntmps61
  go_wp2_with (first | (go_at_call 80; refine (within_any _ _ _ _).mono ?_; rintro e w1 ⟨rfl, rfl⟩) | (go_at_call 68; refine (isKey_any _ _).mono ?_; rintro e w1 ⟨rfl, rfl⟩) | (go_at_call 69; refine (HV.out _ (by first | exact HB0.out | exact HB0.out.drew)).mono ?_; rintro e w2 ⟨rfl, hb2⟩) | (go_at_call 38; refine (HBY.out _).mono ?_; rintro e w3 ⟨rfl, hb3⟩) | (go_at_call 70; refine (less_any _ _ _).mono ?_; rw [HL.out]; rintro e w4 ⟨rfl, rfl⟩))
  go_ret
  exact ⟨rfl, by first | exact HB0.out⟩

set_option maxRecDepth 100000 in
set_option maxHeartbeats 400000 in
theorem ckhifalse_at (c dep : Nat) (bf : ByteArray) (k : Int) (n : Int) (d : ByteArray) (w : World) (h3 : (k == 3) = false) (h4 : (k == 4) = false) (h5 : (k == 5) = false) (h6 : (k == 6) = false) (hk : 8 < k) (hat : 512 ≤ (c : Int)) :
    Calls Tryd.prog 61 #[itemV k n d, .int .i64 c, .int .i64 dep, .bool false, .string bf] w (CheckPost w 8) := by
  have HB0 := Lib.hid ((Below.refl w.heap.size w).alloc (Nat.le_refl _) (.cells #[.int .i64 k, .int .u64 n, .string d] 58))
  have hk2 : ¬ k ≤ 8 := by omega
  have hk3 : 1 ≤ k := by omega
  unfold itemV
  go_enter Tryd.func61, Tryd.ntmps61
  go_wp2_with (first | (go_at_call 80; refine (within_any _ _ _ _).mono ?_; rintro e w1 ⟨rfl, rfl⟩) | (go_at_call 68; refine (isKey_any _ _).mono ?_; rintro e w1 ⟨rfl, rfl⟩) | (go_at_call 69; refine (HV.out _ (by first | exact HB0.out | exact HB0.out.drew)).mono ?_; rintro e w2 ⟨rfl, hb2⟩) | (go_at_call 38; refine (HBY.out _).mono ?_; rintro e w3 ⟨rfl, hb3⟩) | (go_at_call 70; refine (less_any _ _ _).mono ?_; rw [HL.out]; rintro e w4 ⟨rfl, rfl⟩))
  go_ret
  exact ⟨rfl, by first | exact HB0.out⟩

set_option maxRecDepth 100000 in
set_option maxHeartbeats 400000 in
theorem ckhifalse_kind (c dep : Nat) (bf : ByteArray) (k : Int) (n : Int) (d : ByteArray) (w : World) (h3 : (k == 3) = false) (h4 : (k == 4) = false) (h5 : (k == 5) = false) (h6 : (k == 6) = false) (hk : 8 < k) (hat : (c : Int) < 512) :
    Calls Tryd.prog 61 #[itemV k n d, .int .i64 c, .int .i64 dep, .bool false, .string bf] w (CheckPost w 3) := by
  have HB0 := Lib.hid ((Below.refl w.heap.size w).alloc (Nat.le_refl _) (.cells #[.int .i64 k, .int .u64 n, .string d] 58))
  have hk2 : ¬ k ≤ 8 := by omega
  have hk3 : 1 ≤ k := by omega
  unfold itemV
  go_enter Tryd.func61, Tryd.ntmps61
  go_wp2_with (first | (go_at_call 80; refine (within_any _ _ _ _).mono ?_; rintro e w1 ⟨rfl, rfl⟩) | (go_at_call 68; refine (isKey_any _ _).mono ?_; rintro e w1 ⟨rfl, rfl⟩) | (go_at_call 69; refine (HV.out _ (by first | exact HB0.out | exact HB0.out.drew)).mono ?_; rintro e w2 ⟨rfl, hb2⟩) | (go_at_call 38; refine (HBY.out _).mono ?_; rintro e w3 ⟨rfl, hb3⟩) | (go_at_call 70; refine (less_any _ _ _).mono ?_; rw [HL.out]; rintro e w4 ⟨rfl, rfl⟩))
  go_ret
  exact ⟨rfl, by first | exact HB0.out⟩

end Go.Proofs.YtepinmeidjlmmaaDoor
