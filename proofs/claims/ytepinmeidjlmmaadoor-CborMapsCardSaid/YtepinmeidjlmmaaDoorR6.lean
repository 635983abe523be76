/- Joined: E5. -/
import Derived.Test.YtepinmeidjlmmaaDoorR5
namespace Go.Proofs.YtepinmeidjlmmaaDoor
open Go.RowKit

set_option maxRecDepth 100000 in
set_option maxHeartbeats 400000 in
theorem ck4true_at (c dep : Nat) (bf : ByteArray) (n : Int) (d : ByteArray) (w : World) (hat : 512 ≤ (c : Int)) :
    Calls Tryd.prog 61 #[itemV 4 n d, .int .i64 c, .int .i64 dep, .bool true, .string bf] w (CheckPost w 8) := by
  have HB0 := Lib.hid ((Below.refl w.heap.size w).alloc (Nat.le_refl _) (.cells #[.int .i64 4, .int .u64 n, .string d] 58))
  unfold itemV
  go_enter Tryd.func61, Tryd.ntmps61
  go_wp2_with (first | (go_at_call 80; refine (within_any _ _ _ _).mono ?_; rintro e w1 ⟨rfl, rfl⟩) | (go_at_call 68; refine (isKey_any _ _).mono ?_; rintro e w1 ⟨rfl, rfl⟩) | (go_at_call 69; refine (HV.out _ (by first | exact HB0.out | exact HB0.out.drew)).mono ?_; rintro e w2 ⟨rfl, hb2⟩; obtain ⟨c1, c2, c3, c4⟩ := BoxS.step HS0.out hb2) | (go_at_call 38; refine (HBY.out _).mono ?_; rintro e w3 ⟨rfl, hb3⟩) | (go_at_call 70; refine (less_any _ _ _).mono ?_; rw [HL.out]; rintro e w4 ⟨rfl, rfl⟩))
  go_ret
  exact ⟨rfl, by first | exact HB0.out⟩

set_option maxRecDepth 100000 in
set_option maxHeartbeats 400000 in
theorem ck4true_dep (c dep : Nat) (bf : ByteArray) (n : Int) (d : ByteArray) (w : World) (hat : (c : Int) < 512) (hdep : 8 < (dep : Int)) :
    Calls Tryd.prog 61 #[itemV 4 n d, .int .i64 c, .int .i64 dep, .bool true, .string bf] w (CheckPost w 5) := by
  have HB0 := Lib.hid ((Below.refl w.heap.size w).alloc (Nat.le_refl _) (.cells #[.int .i64 4, .int .u64 n, .string d] 58))
  unfold itemV
  go_enter Tryd.func61, Tryd.ntmps61
  go_wp2_with (first | (go_at_call 80; refine (within_any _ _ _ _).mono ?_; rintro e w1 ⟨rfl, rfl⟩) | (go_at_call 68; refine (isKey_any _ _).mono ?_; rintro e w1 ⟨rfl, rfl⟩) | (go_at_call 69; refine (HV.out _ (by first | exact HB0.out | exact HB0.out.drew)).mono ?_; rintro e w2 ⟨rfl, hb2⟩; obtain ⟨c1, c2, c3, c4⟩ := BoxS.step HS0.out hb2) | (go_at_call 38; refine (HBY.out _).mono ?_; rintro e w3 ⟨rfl, hb3⟩) | (go_at_call 70; refine (less_any _ _ _).mono ?_; rw [HL.out]; rintro e w4 ⟨rfl, rfl⟩))
  go_ret
  exact ⟨rfl, by first | exact HB0.out⟩

set_option maxRecDepth 100000 in
set_option maxHeartbeats 400000 in
theorem ck4true_num (c dep : Nat) (bf : ByteArray) (n : Int) (d : ByteArray) (w : World) (hat : (c : Int) < 512) (hdep : (dep : Int) ≤ 8) (hn : n ≠ 0) :
    Calls Tryd.prog 61 #[itemV 4 n d, .int .i64 c, .int .i64 dep, .bool true, .string bf] w (CheckPost w 4) := by
  have HB0 := Lib.hid ((Below.refl w.heap.size w).alloc (Nat.le_refl _) (.cells #[.int .i64 4, .int .u64 n, .string d] 58))
  unfold itemV
  go_enter Tryd.func61, Tryd.ntmps61
  go_wp2_with (first | (go_at_call 80; refine (within_any _ _ _ _).mono ?_; rintro e w1 ⟨rfl, rfl⟩) | (go_at_call 68; refine (isKey_any _ _).mono ?_; rintro e w1 ⟨rfl, rfl⟩) | (go_at_call 69; refine (HV.out _ (by first | exact HB0.out | exact HB0.out.drew)).mono ?_; rintro e w2 ⟨rfl, hb2⟩; obtain ⟨c1, c2, c3, c4⟩ := BoxS.step HS0.out hb2) | (go_at_call 38; refine (HBY.out _).mono ?_; rintro e w3 ⟨rfl, hb3⟩) | (go_at_call 70; refine (less_any _ _ _).mono ?_; rw [HL.out]; rintro e w4 ⟨rfl, rfl⟩))
  go_ret
  exact ⟨rfl, by first | exact HB0.out⟩

set_option maxRecDepth 100000 in
set_option maxHeartbeats 400000 in
theorem ck4true_size (c dep : Nat) (bf : ByteArray) (d : ByteArray) (w : World) (hat : (c : Int) < 512) (hdep : (dep : Int) ≤ 8) (hsz : 1024 < (d.size : Int)) :
    Calls Tryd.prog 61 #[itemV 4 0 d, .int .i64 c, .int .i64 dep, .bool true, .string bf] w (CheckPost w 8) := by
  have HB0 := Lib.hid ((Below.refl w.heap.size w).alloc (Nat.le_refl _) (.cells #[.int .i64 4, .int .u64 0, .string d] 58))
  unfold itemV
  go_enter Tryd.func61, Tryd.ntmps61
  go_wp2_with (first | (go_at_call 80; refine (within_any _ _ _ _).mono ?_; rintro e w1 ⟨rfl, rfl⟩) | (go_at_call 68; refine (isKey_any _ _).mono ?_; rintro e w1 ⟨rfl, rfl⟩) | (go_at_call 69; refine (HV.out _ (by first | exact HB0.out | exact HB0.out.drew)).mono ?_; rintro e w2 ⟨rfl, hb2⟩; obtain ⟨c1, c2, c3, c4⟩ := BoxS.step HS0.out hb2) | (go_at_call 38; refine (HBY.out _).mono ?_; rintro e w3 ⟨rfl, hb3⟩) | (go_at_call 70; refine (less_any _ _ _).mono ?_; rw [HL.out]; rintro e w4 ⟨rfl, rfl⟩))
  go_ret
  exact ⟨rfl, by first | exact HB0.out⟩

set_option maxRecDepth 100000 in
set_option maxHeartbeats 400000 in
theorem ck4true_text (c dep : Nat) (bf : ByteArray) (d : ByteArray) (w : World) (hat : (c : Int) < 512) (hdep : (dep : Int) ≤ 8) (hsz : (d.size : Int) ≤ 1024) (ht : Tabs w) (hv : Lib.validD d.data.toList = false) :
    Calls Tryd.prog 61 #[itemV 4 0 d, .int .i64 c, .int .i64 dep, .bool true, .string bf] w (CheckPost w 6) := by
  have HB0 := Lib.hid ((Below.refl w.heap.size w).alloc (Nat.le_refl _) (.cells #[.int .i64 4, .int .u64 0, .string d] 58))
  have HV := Lib.hid (fun (W : World) (hW : Below w.heap.size w W) => show Calls Tryd.prog 69 #[.string d] W (fun e w' => e = .returned (.bool false) ∧ Below W.heap.size W w') by have := valid_any d W (by omega) (ht.later hW).u8; rwa [hv] at this)
  clear ht hv
  have HS0 := Lib.hid (BoxS.mk' (heap_new w (.cells #[.int .i64 4, .int .u64 0, .string d] 58)))
  unfold itemV
  go_enter Tryd.func61, Tryd.ntmps61
  go_wp2_with (first | (go_at_call 80; refine (within_any _ _ _ _).mono ?_; rintro e w1 ⟨rfl, rfl⟩) | (go_at_call 68; refine (isKey_any _ _).mono ?_; rintro e w1 ⟨rfl, rfl⟩) | (go_at_call 69; refine (HV.out _ (by first | exact HB0.out | exact HB0.out.drew)).mono ?_; rintro e w2 ⟨rfl, hb2⟩; obtain ⟨c1, c2, c3, c4⟩ := BoxS.step HS0.out hb2) | (go_at_call 38; refine (HBY.out _).mono ?_; rintro e w3 ⟨rfl, hb3⟩) | (go_at_call 70; refine (less_any _ _ _).mono ?_; rw [HL.out]; rintro e w4 ⟨rfl, rfl⟩))
  go_ret
  exact ⟨rfl, by first | exact below_aft HB0.out hb2 | exact below_aft (below_aft HB0.out hb2) hb3⟩

set_option maxRecDepth 100000 in
set_option maxHeartbeats 400000 in
theorem ck4false_at (c dep : Nat) (bf : ByteArray) (n : Int) (d : ByteArray) (w : World) (hat : 512 ≤ (c : Int)) :
    Calls Tryd.prog 61 #[itemV 4 n d, .int .i64 c, .int .i64 dep, .bool false, .string bf] w (CheckPost w 8) := by
  have HB0 := Lib.hid ((Below.refl w.heap.size w).alloc (Nat.le_refl _) (.cells #[.int .i64 4, .int .u64 n, .string d] 58))
  unfold itemV
  go_enter Tryd.func61, Tryd.ntmps61
  go_wp2_with (first | (go_at_call 80; refine (within_any _ _ _ _).mono ?_; rintro e w1 ⟨rfl, rfl⟩) | (go_at_call 68; refine (isKey_any _ _).mono ?_; rintro e w1 ⟨rfl, rfl⟩) | (go_at_call 69; refine (HV.out _ (by first | exact HB0.out | exact HB0.out.drew)).mono ?_; rintro e w2 ⟨rfl, hb2⟩; obtain ⟨c1, c2, c3, c4⟩ := BoxS.step HS0.out hb2) | (go_at_call 38; refine (HBY.out _).mono ?_; rintro e w3 ⟨rfl, hb3⟩) | (go_at_call 70; refine (less_any _ _ _).mono ?_; rw [HL.out]; rintro e w4 ⟨rfl, rfl⟩))
  go_ret
  exact ⟨rfl, by first | exact HB0.out⟩

set_option maxRecDepth 100000 in
set_option maxHeartbeats 400000 in
theorem ck4false_dep (c dep : Nat) (bf : ByteArray) (n : Int) (d : ByteArray) (w : World) (hat : (c : Int) < 512) (hdep : 8 < (dep : Int)) :
    Calls Tryd.prog 61 #[itemV 4 n d, .int .i64 c, .int .i64 dep, .bool false, .string bf] w (CheckPost w 5) := by
  have HB0 := Lib.hid ((Below.refl w.heap.size w).alloc (Nat.le_refl _) (.cells #[.int .i64 4, .int .u64 n, .string d] 58))
  unfold itemV
  go_enter Tryd.func61, Tryd.ntmps61
  go_wp2_with (first | (go_at_call 80; refine (within_any _ _ _ _).mono ?_; rintro e w1 ⟨rfl, rfl⟩) | (go_at_call 68; refine (isKey_any _ _).mono ?_; rintro e w1 ⟨rfl, rfl⟩) | (go_at_call 69; refine (HV.out _ (by first | exact HB0.out | exact HB0.out.drew)).mono ?_; rintro e w2 ⟨rfl, hb2⟩; obtain ⟨c1, c2, c3, c4⟩ := BoxS.step HS0.out hb2) | (go_at_call 38; refine (HBY.out _).mono ?_; rintro e w3 ⟨rfl, hb3⟩) | (go_at_call 70; refine (less_any _ _ _).mono ?_; rw [HL.out]; rintro e w4 ⟨rfl, rfl⟩))
  go_ret
  exact ⟨rfl, by first | exact HB0.out⟩

set_option maxRecDepth 100000 in
set_option maxHeartbeats 400000 in
theorem ck4false_num (c dep : Nat) (bf : ByteArray) (n : Int) (d : ByteArray) (w : World) (hat : (c : Int) < 512) (hdep : (dep : Int) ≤ 8) (hn : n ≠ 0) :
    Calls Tryd.prog 61 #[itemV 4 n d, .int .i64 c, .int .i64 dep, .bool false, .string bf] w (CheckPost w 4) := by
  have HB0 := Lib.hid ((Below.refl w.heap.size w).alloc (Nat.le_refl _) (.cells #[.int .i64 4, .int .u64 n, .string d] 58))
  unfold itemV
  go_enter Tryd.func61, Tryd.ntmps61
  go_wp2_with (first | (go_at_call 80; refine (within_any _ _ _ _).mono ?_; rintro e w1 ⟨rfl, rfl⟩) | (go_at_call 68; refine (isKey_any _ _).mono ?_; rintro e w1 ⟨rfl, rfl⟩) | (go_at_call 69; refine (HV.out _ (by first | exact HB0.out | exact HB0.out.drew)).mono ?_; rintro e w2 ⟨rfl, hb2⟩; obtain ⟨c1, c2, c3, c4⟩ := BoxS.step HS0.out hb2) | (go_at_call 38; refine (HBY.out _).mono ?_; rintro e w3 ⟨rfl, hb3⟩) | (go_at_call 70; refine (less_any _ _ _).mono ?_; rw [HL.out]; rintro e w4 ⟨rfl, rfl⟩))
  go_ret
  exact ⟨rfl, by first | exact HB0.out⟩

set_option maxRecDepth 100000 in
set_option maxHeartbeats 400000 in
theorem ck4false_size (c dep : Nat) (bf : ByteArray) (d : ByteArray) (w : World) (hat : (c : Int) < 512) (hdep : (dep : Int) ≤ 8) (hsz : 1024 < (d.size : Int)) :
    Calls Tryd.prog 61 #[itemV 4 0 d, .int .i64 c, .int .i64 dep, .bool false, .string bf] w (CheckPost w 8) := by
  have HB0 := Lib.hid ((Below.refl w.heap.size w).alloc (Nat.le_refl _) (.cells #[.int .i64 4, .int .u64 0, .string d] 58))
  unfold itemV
  go_enter Tryd.func61, Tryd.ntmps61
  go_wp2_with (first | (go_at_call 80; refine (within_any _ _ _ _).mono ?_; rintro e w1 ⟨rfl, rfl⟩) | (go_at_call 68; refine (isKey_any _ _).mono ?_; rintro e w1 ⟨rfl, rfl⟩) | (go_at_call 69; refine (HV.out _ (by first | exact HB0.out | exact HB0.out.drew)).mono ?_; rintro e w2 ⟨rfl, hb2⟩; obtain ⟨c1, c2, c3, c4⟩ := BoxS.step HS0.out hb2) | (go_at_call 38; refine (HBY.out _).mono ?_; rintro e w3 ⟨rfl, hb3⟩) | (go_at_call 70; refine (less_any _ _ _).mono ?_; rw [HL.out]; rintro e w4 ⟨rfl, rfl⟩))
  go_ret
  exact ⟨rfl, by first | exact HB0.out⟩

set_option maxRecDepth 100000 in
set_option maxHeartbeats 400000 in
theorem ck4false_text (c dep : Nat) (bf : ByteArray) (d : ByteArray) (w : World) (hat : (c : Int) < 512) (hdep : (dep : Int) ≤ 8) (hsz : (d.size : Int) ≤ 1024) (ht : Tabs w) (hv : Lib.validD d.data.toList = false) :
    Calls Tryd.prog 61 #[itemV 4 0 d, .int .i64 c, .int .i64 dep, .bool false, .string bf] w (CheckPost w 6) := by
  have HB0 := Lib.hid ((Below.refl w.heap.size w).alloc (Nat.le_refl _) (.cells #[.int .i64 4, .int .u64 0, .string d] 58))
  have HV := Lib.hid (fun (W : World) (hW : Below w.heap.size w W) => show Calls Tryd.prog 69 #[.string d] W (fun e w' => e = .returned (.bool false) ∧ Below W.heap.size W w') by have := valid_any d W (by omega) (ht.later hW).u8; rwa [hv] at this)
  clear ht hv
  have HS0 := Lib.hid (BoxS.mk' (heap_new w (.cells #[.int .i64 4, .int .u64 0, .string d] 58)))
  unfold itemV
  go_enter Tryd.func61, Tryd.ntmps61
  go_wp2_with (first | (go_at_call 80; refine (within_any _ _ _ _).mono ?_; rintro e w1 ⟨rfl, rfl⟩) | (go_at_call 68; refine (isKey_any _ _).mono ?_; rintro e w1 ⟨rfl, rfl⟩) | (go_at_call 69; refine (HV.out _ (by first | exact HB0.out | exact HB0.out.drew)).mono ?_; rintro e w2 ⟨rfl, hb2⟩; obtain ⟨c1, c2, c3, c4⟩ := BoxS.step HS0.out hb2) | (go_at_call 38; refine (HBY.out _).mono ?_; rintro e w3 ⟨rfl, hb3⟩) | (go_at_call 70; refine (less_any _ _ _).mono ?_; rw [HL.out]; rintro e w4 ⟨rfl, rfl⟩))
  go_ret
  exact ⟨rfl, by first | exact below_aft HB0.out hb2 | exact below_aft (below_aft HB0.out hb2) hb3⟩

set_option maxRecDepth 100000 in
set_option maxHeartbeats 400000 in
theorem ck4false_ok (c dep : Nat) (bf : ByteArray) (d : ByteArray) (w : World) (hat : (c : Int) < 512) (hdep : (dep : Int) ≤ 8) (hsz : (d.size : Int) ≤ 1024) (ht : Tabs w) (hv : Lib.validD d.data.toList = true) :
    Calls Tryd.prog 61 #[itemV 4 0 d, .int .i64 c, .int .i64 dep, .bool false, .string bf] w (CheckPost w 0) := by
  have HB0 := Lib.hid ((Below.refl w.heap.size w).alloc (Nat.le_refl _) (.cells #[.int .i64 4, .int .u64 0, .string d] 58))
  have HV := Lib.hid (fun (W : World) (hW : Below w.heap.size w W) => show Calls Tryd.prog 69 #[.string d] W (fun e w' => e = .returned (.bool true) ∧ Below W.heap.size W w') by have := valid_any d W (by omega) (ht.later hW).u8; rwa [hv] at this)
  clear ht hv
  have HS0 := Lib.hid (BoxS.mk' (heap_new w (.cells #[.int .i64 4, .int .u64 0, .string d] 58)))
  unfold itemV
  go_enter Tryd.func61, Tryd.ntmps61
  go_wp2_with (first | (go_at_call 80; refine (within_any _ _ _ _).mono ?_; rintro e w1 ⟨rfl, rfl⟩) | (go_at_call 68; refine (isKey_any _ _).mono ?_; rintro e w1 ⟨rfl, rfl⟩) | (go_at_call 69; refine (HV.out _ (by first | exact HB0.out | exact HB0.out.drew)).mono ?_; rintro e w2 ⟨rfl, hb2⟩; obtain ⟨c1, c2, c3, c4⟩ := BoxS.step HS0.out hb2) | (go_at_call 38; refine (HBY.out _).mono ?_; rintro e w3 ⟨rfl, hb3⟩) | (go_at_call 70; refine (less_any _ _ _).mono ?_; rw [HL.out]; rintro e w4 ⟨rfl, rfl⟩))
  go_ret
  exact ⟨rfl, by first | exact below_aft HB0.out hb2 | exact below_aft (below_aft HB0.out hb2) hb3⟩

set_option maxRecDepth 100000 in
set_option maxHeartbeats 400000 in
theorem ck4true_first (c dep : Nat) (bf : ByteArray) (d : ByteArray) (w : World) (hat : (c : Int) < 512) (hdep : (dep : Int) ≤ 8) (hsz : (d.size : Int) ≤ 1024) (ht : Tabs w) (hv : Lib.validD d.data.toList = true) (hbf : bf.toList.isEmpty = true) :
    Calls Tryd.prog 61 #[itemV 4 0 d, .int .i64 c, .int .i64 dep, .bool true, .string bf] w (CheckPost w 0) := by
  have HB0 := Lib.hid ((Below.refl w.heap.size w).alloc (Nat.le_refl _) (.cells #[.int .i64 4, .int .u64 0, .string d] 58))
  have HV := Lib.hid (fun (W : World) (hW : Below w.heap.size w W) => show Calls Tryd.prog 69 #[.string d] W (fun e w' => e = .returned (.bool true) ∧ Below W.heap.size W w') by have := valid_any d W (by omega) (ht.later hW).u8; rwa [hv] at this)
  clear ht hv
  have HS0 := Lib.hid (BoxS.mk' (heap_new w (.cells #[.int .i64 4, .int .u64 0, .string d] 58)))
  unfold itemV
  go_enter Tryd.func61, Tryd.ntmps61
  go_wp2_with (first | (go_at_call 80; refine (within_any _ _ _ _).mono ?_; rintro e w1 ⟨rfl, rfl⟩) | (go_at_call 68; refine (isKey_any _ _).mono ?_; rintro e w1 ⟨rfl, rfl⟩) | (go_at_call 69; refine (HV.out _ (by first | exact HB0.out | exact HB0.out.drew)).mono ?_; rintro e w2 ⟨rfl, hb2⟩; obtain ⟨c1, c2, c3, c4⟩ := BoxS.step HS0.out hb2) | (go_at_call 38; refine (HBY.out _).mono ?_; rintro e w3 ⟨rfl, hb3⟩) | (go_at_call 70; refine (less_any _ _ _).mono ?_; rw [HL.out]; rintro e w4 ⟨rfl, rfl⟩))
  go_ret
  exact ⟨rfl, by first | exact below_aft HB0.out hb2 | exact below_aft (below_aft HB0.out hb2) hb3⟩

set_option maxRecDepth 100000 in
set_option maxHeartbeats 400000 in
theorem ck4true_true (c dep : Nat) (bf : ByteArray) (d : ByteArray) (w : World) (hat : (c : Int) < 512) (hdep : (dep : Int) ≤ 8) (hsz : (d.size : Int) ≤ 1024) (ht : Tabs w) (hv : Lib.validD d.data.toList = true) (hbf : bf.toList.isEmpty = false) (hl : lessB bf (bytesS 4 0 d) = true) :
    Calls Tryd.prog 61 #[itemV 4 0 d, .int .i64 c, .int .i64 dep, .bool true, .string bf] w (CheckPost w 0) := by
  have HB0 := Lib.hid ((Below.refl w.heap.size w).alloc (Nat.le_refl _) (.cells #[.int .i64 4, .int .u64 0, .string d] 58))
  have HV := Lib.hid (fun (W : World) (hW : Below w.heap.size w W) => show Calls Tryd.prog 69 #[.string d] W (fun e w' => e = .returned (.bool true) ∧ Below W.heap.size W w') by have := valid_any d W (by omega) (ht.later hW).u8; rwa [hv] at this)
  clear ht hv
  have HS0 := Lib.hid (BoxS.mk' (heap_new w (.cells #[.int .i64 4, .int .u64 0, .string d] 58)))
  have HBY := Lib.hid (fun (W : World) => bytesR_any 4 0 d W (by omega) (by omega) (Int.le_refl 0) (by intro h; omega) (by omega))
  have HL := Lib.hid hl
  clear hl
  unfold itemV
  go_enter Tryd.func61, Tryd.ntmps61
  go_wp2_with (first | (go_at_call 80; refine (within_any _ _ _ _).mono ?_; rintro e w1 ⟨rfl, rfl⟩) | (go_at_call 68; refine (isKey_any _ _).mono ?_; rintro e w1 ⟨rfl, rfl⟩) | (go_at_call 69; refine (HV.out _ (by first | exact HB0.out | exact HB0.out.drew)).mono ?_; rintro e w2 ⟨rfl, hb2⟩; obtain ⟨c1, c2, c3, c4⟩ := BoxS.step HS0.out hb2) | (go_at_call 38; refine (HBY.out _).mono ?_; rintro e w3 ⟨rfl, hb3⟩) | (go_at_call 70; refine (less_any _ _ _).mono ?_; rw [HL.out]; rintro e w4 ⟨rfl, rfl⟩))
  go_ret
  exact ⟨rfl, by first | exact below_aft HB0.out hb2 | exact below_aft (below_aft HB0.out hb2) hb3⟩

set_option maxRecDepth 100000 in
set_option maxHeartbeats 400000 in
theorem ck4true_false (c dep : Nat) (bf : ByteArray) (d : ByteArray) (w : World) (hat : (c : Int) < 512) (hdep : (dep : Int) ≤ 8) (hsz : (d.size : Int) ≤ 1024) (ht : Tabs w) (hv : Lib.validD d.data.toList = true) (hbf : bf.toList.isEmpty = false) (hl : lessB bf (bytesS 4 0 d) = false) :
    Calls Tryd.prog 61 #[itemV 4 0 d, .int .i64 c, .int .i64 dep, .bool true, .string bf] w (CheckPost w 7) := by
  have HB0 := Lib.hid ((Below.refl w.heap.size w).alloc (Nat.le_refl _) (.cells #[.int .i64 4, .int .u64 0, .string d] 58))
  have HV := Lib.hid (fun (W : World) (hW : Below w.heap.size w W) => show Calls Tryd.prog 69 #[.string d] W (fun e w' => e = .returned (.bool true) ∧ Below W.heap.size W w') by have := valid_any d W (by omega) (ht.later hW).u8; rwa [hv] at this)
  clear ht hv
  have HS0 := Lib.hid (BoxS.mk' (heap_new w (.cells #[.int .i64 4, .int .u64 0, .string d] 58)))
  have HBY := Lib.hid (fun (W : World) => bytesR_any 4 0 d W (by omega) (by omega) (Int.le_refl 0) (by intro h; omega) (by omega))
  have HL := Lib.hid hl
  clear hl
  unfold itemV
  go_enter Tryd.func61, Tryd.ntmps61
  go_wp2_with (first | (go_at_call 80; refine (within_any _ _ _ _).mono ?_; rintro e w1 ⟨rfl, rfl⟩) | (go_at_call 68; refine (isKey_any _ _).mono ?_; rintro e w1 ⟨rfl, rfl⟩) | (go_at_call 69; refine (HV.out _ (by first | exact HB0.out | exact HB0.out.drew)).mono ?_; rintro e w2 ⟨rfl, hb2⟩; obtain ⟨c1, c2, c3, c4⟩ := BoxS.step HS0.out hb2) | (go_at_call 38; refine (HBY.out _).mono ?_; rintro e w3 ⟨rfl, hb3⟩) | (go_at_call 70; refine (less_any _ _ _).mono ?_; rw [HL.out]; rintro e w4 ⟨rfl, rfl⟩))
  go_ret
  exact ⟨rfl, by first | exact below_aft HB0.out hb2 | exact below_aft (below_aft HB0.out hb2) hb3⟩

end Go.Proofs.YtepinmeidjlmmaaDoor
