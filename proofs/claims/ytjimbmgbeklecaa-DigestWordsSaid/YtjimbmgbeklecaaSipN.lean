/- The laws of digest, walked: the sums and the uses. -/
import Derived.Test.YtjimbmgbeklecaaSipM
namespace Go.Proofs.Ytjimbmgbeklecaa
open Go.RowKit
set_option maxRecDepth 100000

set_option maxHeartbeats 1000000 in
theorem sums_law (x y : BitVec 64) (A : Option Addr) (n cap : Nat) (zs : List Int) (w : World) (hb : Bytes w A n zs) (hc : n ≤ cap) (hm : cap ≤ 9223372036854775807) :
    Calls Try.prog 3 #[.int .u64 (val x), .int .u64 (val y), .slice A n cap] w fun e w' => e = .returned (.bool true) ∧ Below w.heap.size w w' := by
  have HB := Lib.hid hb
  clear hb
  by_cases hlt : 1000 < n
  · go_enter Try.func3, Try.ntmps3
    go_wp2_with fail
    refine (awake_any _).mono ?_
    rintro e w1 ⟨rfl, hb1⟩
    go_wp2
    go_ret
    exact ⟨rfl, hb1⟩
  · go_enter Try.func3, Try.ntmps3
    go_wp2_with fail
    refine (sum_any x y A n cap zs _ HB.out hc hm).mono ?_
    rintro e w1 ⟨rfl, hb1⟩
    go_wp2_with fail
    refine (sumR_any x y A n cap zs _ (HB.out.below hb1) (by omega)).mono ?_
    rintro e w2 ⟨rfl, hb2⟩
    have hb12 := hb1.trans (hb2.mono hb1.size)
    go_wp2_with fail
    refine (awake_any _).mono ?_
    rintro e w3 ⟨rfl, hb3⟩
    go_wp2
    go_ret
    exact ⟨rfl, hb12.trans (hb3.mono hb12.size)⟩

set_option maxHeartbeats 1000000 in
theorem uses_law (x : BitVec 64) (d : Int) (A : Option Addr) (n cap : Nat) (zs : List Int) (s : ByteArray) (k : Int) (w : World) (hb : Bytes w A n zs) (hc : n ≤ cap) (hm : cap ≤ 9223372036854775807) (hsz : s.size ≤ 9223372036854775807) :
    Calls Try.prog 4 #[.int .u64 (val x), .int .i64 d, .slice A n cap, .string s, .int .i64 k] w fun e w' => e = .returned (.bool true) ∧ Below w.heap.size w w' := by
  have HB := Lib.hid hb
  clear hb
  by_cases hlt : 1000 < n
  · go_enter Try.func4, Try.ntmps4
    go_wp2_with fail
    refine (awake_any _).mono ?_
    rintro e w1 ⟨rfl, hb1⟩
    go_wp2
    go_ret
    exact ⟨rfl, hb1⟩
  · by_cases hls : 300 < s.size
    · go_enter Try.func4, Try.ntmps4
      go_wp2_with fail
      refine (awake_any _).mono ?_
      rintro e w1 ⟨rfl, hb1⟩
      go_wp2
      go_ret
      exact ⟨rfl, hb1⟩
    · go_enter Try.func4, Try.ntmps4
      go_wp2_with fail
      refine (hash_any d A n cap zs _ HB.out hc hm).mono ?_
      rintro e w1 ⟨rfl, hb1⟩
      have e1 : sipHash d zs = sipSum (BitVec.ofInt 64 d) 0#64 zs := rfl
      rw [e1]
      clear e1
      go_wp2_with fail
      rw [val_wrap]
      refine (sum_zero (BitVec.ofInt 64 d) A n cap zs _ (HB.out.below hb1) hc hm).mono ?_
      rintro e w2 ⟨rfl, hb2⟩
      have hb12 := hb1.trans (hb2.mono hb1.size)
      have HB12 := Lib.hid hb12
      clear hb1 hb2 hb12
      go_wp2_with fail
      refine (mac_any x d A n cap zs _ (HB.out.below HB12.out) hc hm).mono ?_
      rintro e w3 ⟨rfl, hb3⟩
      have e1 : sipMac x d zs = sipSum x (1#64 + BitVec.ofInt 64 d) zs := rfl
      rw [e1]
      clear e1
      have hb13 := HB12.out.trans (hb3.mono HB12.out.size)
      have HB13 := Lib.hid hb13
      clear hb3 hb13
      go_wp2_with fail
      rw [one_wrap]
      refine (sum_any x (1#64 + BitVec.ofInt 64 d) A n cap zs _ (HB.out.below HB13.out) hc hm).mono ?_
      rintro e w4 ⟨rfl, hb4⟩
      have hb14 := HB13.out.trans (hb4.mono HB13.out.size)
      have HB14 := Lib.hid hb14
      clear hb4 hb14
      go_wp2_with fail
      refine (derive_any x s k _ (by omega)).mono ?_
      rintro e w5 ⟨rfl, hb5⟩
      have hb15 := HB14.out.trans (hb5.mono HB14.out.size)
      have HB15 := Lib.hid hb15
      clear hb5 hb15
      go_wp2_with fail
      refine (deriveR_any x s k _ (by omega)).mono ?_
      rintro e w6 ⟨rfl, hb6⟩
      have hb16 := HB15.out.trans (hb6.mono HB15.out.size)
      have HB16 := Lib.hid hb16
      clear hb6 hb16
      go_wp2_with fail
      refine (awake_any _).mono ?_
      rintro e w7 ⟨rfl, hb7⟩
      go_wp2
      go_ret
      exact ⟨rfl, HB16.out.trans (hb7.mono HB16.out.size)⟩
end Go.Proofs.Ytjimbmgbeklecaa
