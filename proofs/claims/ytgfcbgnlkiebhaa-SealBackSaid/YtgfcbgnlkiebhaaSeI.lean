/- Layer 6: the laws SealCloses and SealBack. -/
import Derived.Test.YtgfcbgnlkiebhaaSeH
namespace Go.Proofs.Ytgfcbgnlkiebhaa
open Go.RowKit
set_option maxRecDepth 100000

set_option maxHeartbeats 1000000 in
theorem closes_long0 (x y : BitVec 64) (A B : Option Addr) (n c m d : Nat) (w : World)  (hn : 300 < n) :
    Calls Try.prog 4 #[.int .u64 (val x), .int .u64 (val y), .slice A n c, .slice B m d] w fun e w' => e = .returned (.bool true) ∧ Below w.heap.size w w' := by
  have HB0 := Lib.hid ((Below.refl w.heap.size w).alloc (Nat.le_refl _) (.cells #[.slice A n c, .slice B m d] 23))
  go_enter Try.func4, Try.ntmps4
  go_wp2_with fail
  refine (short2_no0 A B n c m d w hn).mono ?_
  rintro e w' ⟨rfl, rfl⟩
  go_wp2_with fail
  refine (awake6_any _).mono ?_
  rintro e w1 ⟨rfl, hb⟩
  have HB1 := Lib.hid (HB0.out.trans (hb.mono HB0.out.size))
  clear hb
  go_wp2
  go_ret
  exact ⟨rfl, HB1.out⟩
set_option maxHeartbeats 1000000 in
theorem closes_long1 (x y : BitVec 64) (A B : Option Addr) (n c m d : Nat) (w : World) (hn : n ≤ 300) (hm : 300 < m) :
    Calls Try.prog 4 #[.int .u64 (val x), .int .u64 (val y), .slice A n c, .slice B m d] w fun e w' => e = .returned (.bool true) ∧ Below w.heap.size w w' := by
  have HB0 := Lib.hid ((Below.refl w.heap.size w).alloc (Nat.le_refl _) (.cells #[.slice A n c, .slice B m d] 23))
  go_enter Try.func4, Try.ntmps4
  go_wp2_with fail
  refine (short2_no1 A B n c m d w hn hm).mono ?_
  rintro e w' ⟨rfl, rfl⟩
  go_wp2_with fail
  refine (awake6_any _).mono ?_
  rintro e w1 ⟨rfl, hb⟩
  have HB1 := Lib.hid (HB0.out.trans (hb.mono HB0.out.size))
  clear hb
  go_wp2
  go_ret
  exact ⟨rfl, HB1.out⟩
set_option maxHeartbeats 1000000 in
theorem back_long0 (x y : BitVec 64) (A B : Option Addr) (n c m d : Nat) (w : World)  (hn : 300 < n) :
    Calls Try.prog 6 #[.int .u64 (val x), .int .u64 (val y), .slice A n c, .slice B m d] w fun e w' => e = .returned (.bool true) ∧ Below w.heap.size w w' := by
  have HB0 := Lib.hid ((Below.refl w.heap.size w).alloc (Nat.le_refl _) (.cells #[.slice A n c, .slice B m d] 23))
  go_enter Try.func6, Try.ntmps6
  go_wp2_with fail
  refine (short2_no0 A B n c m d w hn).mono ?_
  rintro e w' ⟨rfl, rfl⟩
  go_wp2_with fail
  refine (awake6_any _).mono ?_
  rintro e w1 ⟨rfl, hb⟩
  have HB1 := Lib.hid (HB0.out.trans (hb.mono HB0.out.size))
  clear hb
  go_wp2
  go_ret
  exact ⟨rfl, HB1.out⟩
set_option maxHeartbeats 1000000 in
theorem back_long1 (x y : BitVec 64) (A B : Option Addr) (n c m d : Nat) (w : World) (hn : n ≤ 300) (hm : 300 < m) :
    Calls Try.prog 6 #[.int .u64 (val x), .int .u64 (val y), .slice A n c, .slice B m d] w fun e w' => e = .returned (.bool true) ∧ Below w.heap.size w w' := by
  have HB0 := Lib.hid ((Below.refl w.heap.size w).alloc (Nat.le_refl _) (.cells #[.slice A n c, .slice B m d] 23))
  go_enter Try.func6, Try.ntmps6
  go_wp2_with fail
  refine (short2_no1 A B n c m d w hn hm).mono ?_
  rintro e w' ⟨rfl, rfl⟩
  go_wp2_with fail
  refine (awake6_any _).mono ?_
  rintro e w1 ⟨rfl, hb⟩
  have HB1 := Lib.hid (HB0.out.trans (hb.mono HB0.out.size))
  clear hb
  go_wp2
  go_ret
  exact ⟨rfl, HB1.out⟩
set_option maxHeartbeats 2000000 in
theorem closes_small (x y : BitVec 64) (A B : Option Addr) (n c m d : Nat) (bs ts : List Int) (w : World) (hA : Bytes w A n bs) (hB : Bytes w B m ts) (hc : n ≤ c) (hcm : c ≤ 9223372036854775807) (hd : m ≤ d) (hdm : d ≤ 9223372036854775807) (hn : n ≤ 300) (hm : m ≤ 300) :
    Calls Try.prog 4 #[.int .u64 (val x), .int .u64 (val y), .slice A n c, .slice B m d] w fun e w' => e = .returned (.bool true) ∧ Below w.heap.size w w' := by
  have HB0 := Lib.hid ((Below.refl w.heap.size w).alloc (Nat.le_refl _) (.cells #[.slice A n c, .slice B m d] 23))
  have HA := Lib.hid hA
  have HB := Lib.hid hB
  have c1 := fun w' (h : Below w.heap.size w w') => sealE_all x y A B n c m d bs ts w' (hA.below h) (hB.below h) hc hcm hd hdm
  have c2 := fun w' (h : Below w.heap.size w w') => sealR_all x y A B n c m d bs ts w' (hA.below h) (hB.below h)
  generalize sealE bs ts = E at *
  generalize sealL x y bs ts = l at *
  have C1 := Lib.hid c1
  have C2 := Lib.hid c2
  clear c1 c2 hA hB hc hcm hd hdm
  go_enter Try.func4, Try.ntmps4
  go_wp2_with fail
  refine (short2_yes A B n c m d w hn hm).mono ?_
  rintro e w' ⟨rfl, rfl⟩
  go_wp2_with fail
  refine (C1.out _ HB0.out).mono ?_
  rintro e w1 ⟨A1, n1, k1, rfl, hy, hk1, hm1, hb⟩
  have HY1 := Lib.hid hy
  have HG1 := Lib.hid hb
  have HB1 := Lib.hid (HB0.out.trans (hb.mono HB0.out.size))
  clear hy hb
  go_wp2_with fail
  refine (C2.out _ HB1.out).mono ?_
  rintro e w2 ⟨A2, n2, k2, rfl, hy, hk2, hm2, hb⟩
  have HY2 := Lib.hid hy
  have HG2 := Lib.hid hb
  have HB2 := Lib.hid (HB1.out.trans (hb.mono HB1.out.size))
  clear hy hb
  have hcv1 := conv_bytes (cap := k1) (HY1.out.below HG2.out)
  have hcv2 := conv_bytes (cap := k2) HY2.out
  generalize strOfNums l = sl at *
  go_wp2_with fail
  refine (awake6_any _).mono ?_
  rintro e w3 ⟨rfl, hb⟩
  have HB3 := Lib.hid (HB2.out.trans (hb.mono HB2.out.size))
  clear hb
  go_wp2
  go_ret
  exact ⟨rfl, HB3.out⟩
set_option maxHeartbeats 2000000 in
theorem back_small (x y : BitVec 64) (A B : Option Addr) (n c m d : Nat) (bs ts : List Int) (w : World) (hA : Bytes w A n bs) (hB : Bytes w B m ts) (hc : n ≤ c) (hcm : c ≤ 9223372036854775807) (hd : m ≤ d) (hdm : d ≤ 9223372036854775807) (hn : n ≤ 300) (hm : m ≤ 300) :
    Calls Try.prog 6 #[.int .u64 (val x), .int .u64 (val y), .slice A n c, .slice B m d] w fun e w' => e = .returned (.bool true) ∧ Below w.heap.size w w' := by
  have HB0 := Lib.hid ((Below.refl w.heap.size w).alloc (Nat.le_refl _) (.cells #[.slice A n c, .slice B m d] 23))
  have HA := Lib.hid hA
  have HB := Lib.hid hB
  have hl1 := hA.len
  have hl2 := hB.len
  have hbox := box_len x y bs ts
  rw [hl2] at hbox
  have c1 := fun w' (h : Below w.heap.size w w') => sealE_all x y A B n c m d bs ts w' (hA.below h) (hB.below h) hc hcm hd hdm
  rw [(seal_small (x := x) (y := y) (bs := bs) (ts := ts) (by omega) (by omega)).1, (seal_small (x := x) (y := y) (bs := bs) (ts := ts) (by omega) (by omega)).2] at c1
  have c2 := fun w' A1 n1 k1 (h : Below w.heap.size w w') (hy : Bytes w' A1 n1 (boxB x y bs ts)) hk hm => openE_all x A A1 n c n1 k1 bs (boxB x y bs ts) w' (hA.below h) hy hc hcm hk hm
  rw [(open_box (x := x) (y := y) (bs := bs) (ts := ts) (by omega) (by omega) hB.rng).1, (open_box (x := x) (y := y) (bs := bs) (ts := ts) (by omega) (by omega) hB.rng).2] at c2
  generalize boxB x y bs ts = l at *
  have C1 := Lib.hid c1
  have C2 := Lib.hid c2
  have HL := Lib.hid hbox
  clear c1 c2 hA hB hc hcm hd hdm hl1 hl2 hbox
  go_enter Try.func6, Try.ntmps6
  go_wp2_with fail
  refine (short2_yes A B n c m d w hn hm).mono ?_
  rintro e w' ⟨rfl, rfl⟩
  go_wp2_with fail
  refine (C1.out _ HB0.out).mono ?_
  rintro e w1 ⟨A1, n1, k1, rfl, hy, hk1, hm1, hb⟩
  have HY1 := Lib.hid hy
  have HG1 := Lib.hid hb
  have HB1 := Lib.hid (HB0.out.trans (hb.mono HB0.out.size))
  clear hy hb
  obtain rfl : n1 = m + 16 := by rw [← HY1.out.len]; exact HL.out
  go_wp2_with fail
  refine (C2.out _ _ _ _ HB1.out HY1.out hk1 hm1).mono ?_
  rintro e w2 ⟨A2, n2, k2, rfl, hy, hk2, hm2, hb⟩
  have HY2 := Lib.hid hy
  have HG2 := Lib.hid hb
  have HB2 := Lib.hid (HB1.out.trans (hb.mono HB1.out.size))
  clear hy hb
  have hcv1 := conv_bytes (cap := d) (HB.out.below HB2.out)
  have hcv2 := conv_bytes (cap := k2) HY2.out
  have hw1 : wrap64 ((m : Int) + 16) = (m : Int) + 16 := by unfold wrap64; omega
  generalize strOfNums ts = sl at *
  go_wp2_with fail
  refine (awake6_any _).mono ?_
  rintro e w3 ⟨rfl, hb⟩
  have HB3 := Lib.hid (HB2.out.trans (hb.mono HB2.out.size))
  clear hb
  go_wp2
  go_ret
  exact ⟨rfl, HB3.out⟩
theorem closes_law (x y : BitVec 64) (A B : Option Addr) (n c m d : Nat) (bs ts : List Int) (w : World) (hA : Bytes w A n bs) (hB : Bytes w B m ts) (hc : n ≤ c) (hcm : c ≤ 9223372036854775807) (hd : m ≤ d) (hdm : d ≤ 9223372036854775807) :
    Calls Try.prog 4 #[.int .u64 (val x), .int .u64 (val y), .slice A n c, .slice B m d] w fun e w' => e = .returned (.bool true) ∧ Below w.heap.size w w' := by
  by_cases hn : n ≤ 300
  · by_cases hm : m ≤ 300
    · exact closes_small x y A B n c m d bs ts w hA hB hc hcm hd hdm hn hm
    · exact closes_long1 x y A B n c m d w hn (by omega)
  · exact closes_long0 x y A B n c m d w (by omega)
theorem back_law (x y : BitVec 64) (A B : Option Addr) (n c m d : Nat) (bs ts : List Int) (w : World) (hA : Bytes w A n bs) (hB : Bytes w B m ts) (hc : n ≤ c) (hcm : c ≤ 9223372036854775807) (hd : m ≤ d) (hdm : d ≤ 9223372036854775807) :
    Calls Try.prog 6 #[.int .u64 (val x), .int .u64 (val y), .slice A n c, .slice B m d] w fun e w' => e = .returned (.bool true) ∧ Below w.heap.size w w' := by
  by_cases hn : n ≤ 300
  · by_cases hm : m ≤ 300
    · exact back_small x y A B n c m d bs ts w hA hB hc hcm hd hdm hn hm
    · exact back_long1 x y A B n c m d w hn (by omega)
  · exact back_long0 x y A B n c m d w (by omega)
end Go.Proofs.Ytgfcbgnlkiebhaa
