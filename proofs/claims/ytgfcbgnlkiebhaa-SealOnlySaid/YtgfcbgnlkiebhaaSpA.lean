/- Stream of the program. -/
import Derived.Test.YtgfcbgnlkiebhaaSeF
namespace Go.Proofs.Ytgfcbgnlkiebhaa
open Go.RowKit
set_option maxRecDepth 100000

/-- the beginning of a row -/
theorem Row.cut {w : World} {base n c : Nat} {A : Option Addr} {zs : List Int} (h : Row w base (.slice A n c) n zs) (k : Nat) (hk : k ≤ n) : Row w base (.slice A k c) k (zs.take k) := by
  have hl := h.1
  refine ⟨by rw [List.length_take]; omega, ?_⟩
  rcases h.2 with ⟨hv, h0⟩ | ⟨g, cap, hv, hg, hlt, h1, hm, hc, hf⟩
  · cases hv
    exact .inl ⟨by rw [show k = 0 by omega], by omega⟩
  · cases hv
    refine .inr ⟨g, c, rfl, hg, hlt, by omega, hm, fun j hj => ?_, hf⟩
    rw [hc j (by omega)]
    simp only [List.getD]
    rw [List.getElem?_take_of_lt hj]

set_option maxHeartbeats 2000000 in
theorem streamE_mid (x y : BitVec 64) (z : Int) (N : Nat) (w : World) (hz : z = (N : Int)) (hN : N ≤ 1024) :
    Calls Try.prog 9 #[.int .u64 (val x), .int .u64 (val y), .int .i64 z] w fun e w' => ∃ v, e = .returned v ∧ Row w' w.heap.size v N (strN x y N) ∧ Below w.heap.size w w' := by
  subst hz
  have h0 : ¬ (N : Int) < 0 := by omega
  have h1 : ¬ (1024 : Int) < (N : Int) := by omega
  have hnw : IntKind.i64.wrap ((N : Int) + 8) = (N : Int) + 8 := by rw [IntKind.wrap_i64]; omega
  have hnw2 : wrap64 ((N : Int) + 8) = (N : Int) + 8 := by unfold wrap64; omega
  obtain ⟨i0, hi, hz0, hz1, hz2⟩ := info_parts infoB
  obtain ⟨w1, hmk, hown1, hg1⟩ := run_make_own (P := Try.prog) w w.heap.size 23 5 i0 (.int .u8 0) 1 Try.underlying23 hi hz0 hz1 .i64 .i64 (N + 8) (by rw [hz2]; omega) (by unfold maxLen; omega) (Nat.le_refl _)
  rw [show (((N + 8 : Nat)) : Int) = (N : Int) + 8 by omega] at hmk
  have hb1 : Below w.heap.size w w1 := (Below.refl _ w).grown hg1 (Nat.le_refl _) (by intro k hk; cases hk)
  have HO := Lib.hid hown1
  have HB1 := Lib.hid hb1
  clear hown1 hz0 hz1 hz2 hi hb1 hg1
  go_enter Try.func9, Try.ntmps9
  go_wp2_with fail
  clear hmk
  go_loopw [7, 8] (fun v iv wr => ∃ k : Nat, iv = .int .u64 (k : Int) ∧ 8 * k < N + 8 ∧ Row wr w.heap.size v (8 * k) (strB x y k) ∧ Below w.heap.size w wr) (fun _ iv _ => N + 8 - 8 * (intOf iv).toNat)
  case atStart => exact ⟨0, rfl, by omega, Row.of_own (by simpa [strB, bv] using HO.out), HB1.out⟩
  case round =>
    obtain ⟨k, rfl, hk, hR, hb⟩ := hrel
    obtain ⟨A, cap, rfl, hcap, hcm, hy⟩ := hR.bytes (strB_rng x y k)
    have HR := Lib.hid hR
    have HY := Lib.hid hy
    have HB := Lib.hid hb
    have hsz := hb.size
    clear hR hy hb
    by_cases hlt : 8 * k < N
    · have hltI : ((8 * k : Nat) : Int) < (N : Int) := by omega
      have hltI2 : 8 * (k : Int) < (N : Int) := by omega
      have hkv : (k : Int) = val (BitVec.ofInt 64 (k : Int)) := val_of (by omega) (by omega)
      have hW2 := Ws.two wr y (BitVec.ofInt 64 (k : Int))
      rw [← hkv] at hW2
      have HW2 := Lib.hid hW2
      clear hkv hW2
      obtain ⟨m, hm⟩ : ∃ m, sipMac x 5 (wsBytes [y, BitVec.ofInt 64 (k : Int)]) = m := ⟨_, rfl⟩
      have HM := Lib.hid hm
      have HBK : Hid (strB x y k ++ wsBytes [m] = strB x y (k + 1)) := Lib.hid (by rw [← strB_succ]; unfold blk; rw [hm])
      clear hm
      go_wp2_with fail
      refine (words_any _ 2 2 _ _ HW2.out (by omega)).mono ?_
      rintro e w2 ⟨v2, rfl, ho2, hb2⟩
      obtain ⟨A2, k2, rfl, hk2, hm2, hy2⟩ := own_bytes ho2 (wsBytes_rng _)
      have HY2 := Lib.hid hy2
      have HB2 := Lib.hid (((Below.refl wr.heap.size wr).alloc (Nat.le_refl _) (.cells #[.int .u64 (val y), .int .u64 (k : Int)] 22)).trans (hb2.mono (by simp)))
      clear ho2 hb2 hy2
      go_wp2_with fail
      refine (mac_any x 5 A2 _ k2 _ w2 HY2.out hk2 hm2).mono ?_
      rintro e w3 ⟨rfl, hb3⟩
      rw [HM.out]
      have HB3 := Lib.hid (HB2.out.trans (hb3.mono HB2.out.size))
      clear hb3
      go_wp2_with fail
      refine (words_any (some ⟨w3.heap.size, 0, none⟩) 1 1 [m] _ (Ws.one w3 m) (by omega)).mono ?_
      rintro e w4 ⟨v4, rfl, ho4, hb4⟩
      obtain ⟨A4, k4, rfl, _, _, hy4⟩ := own_bytes ho4 (wsBytes_rng _)
      have HY4 := Lib.hid hy4
      have HB4 := Lib.hid ((HB3.out.alloc HB3.out.size (.cells #[.int .u64 (val m)] 22)).trans (hb4.mono (by have := HB3.out.size; simp; omega)))
      have HR4 := Lib.hid (HR.out.below HB4.out)
      have hs4 := HB4.out.size
      clear ho4 hb4 hy4
      go_wp2_with (at_builtin; refine app_row rfl _ _ rfl w.heap.size _ (8 * k) (strB x y k) A4 (8 * 1) k4 (wsBytes [m]) HR4.out rfl HY4.out rfl (by omega) (by omega) ?_)
      intro v5 w5 hr5 hb5
      have HR5 : Hid (Row w5 w.heap.size v5 (8 * (k + 1)) (strB x y (k + 1))) := Lib.hid (by rw [← HBK.out]; exact hr5)
      have HB5 := Lib.hid ((HB.out.trans (HB4.out.mono hsz)).trans hb5)
      clear hr5 hb5
      go_wp2
      go_roundw
      case rel => exact ⟨k + 1, by go_num, by omega, HR5.out, HB5.out⟩
      case measure => (simp [intOf] <;> omega)
    · have hltI : ¬ ((8 * k : Nat) : Int) < (N : Int) := by omega
      have hltI2 : ¬ 8 * (k : Int) < (N : Int) := by omega
      have hNc : N ≤ cap := by omega
      have hNcI : (N : Int) ≤ (cap : Int) := by omega
      have hN0 : (0 : Int) ≤ (N : Int) := by omega
      have hkk : (N + 7) / 8 = k := by omega
      have HYN : Hid (Row wr w.heap.size (.slice A N cap) N (strN x y N)) := Lib.hid (by unfold strN; rw [hkk]; exact HR.out.cut N (by omega))
      clear hkk
      go_wp2
      go_ret
      exact ⟨_, rfl, HYN.out, HB.out⟩
set_option maxHeartbeats 2000000 in
theorem streamE_big (x y : BitVec 64) (z : Int) (w : World) (hz : 1024 < z) :
    Calls Try.prog 9 #[.int .u64 (val x), .int .u64 (val y), .int .i64 z] w fun e w' => ∃ v, e = .returned v ∧ Row w' w.heap.size v 1024 (strN x y 1024) ∧ Below w.heap.size w w' := by
  have h0 : ¬ z < 0 := by omega
  obtain ⟨i0, hi, hz0, hz1, hz2⟩ := info_parts infoB
  obtain ⟨w1, hmk, hown1, hg1⟩ := run_make_own (P := Try.prog) w w.heap.size 23 5 i0 (.int .u8 0) 1 Try.underlying23 hi hz0 hz1 .i64 .i64 (1032) (by rw [hz2]; omega) (by unfold maxLen; omega) (Nat.le_refl _)
  rw [show (((1032 : Nat)) : Int) = 1032 by rfl] at hmk
  have hb1 : Below w.heap.size w w1 := (Below.refl _ w).grown hg1 (Nat.le_refl _) (by intro k hk; cases hk)
  have HO := Lib.hid hown1
  have HB1 := Lib.hid hb1
  clear hown1 hz0 hz1 hz2 hi hb1 hg1
  go_enter Try.func9, Try.ntmps9
  go_wp2_with fail
  clear hmk
  go_loopw [7, 8] (fun v iv wr => ∃ k : Nat, iv = .int .u64 (k : Int) ∧ 8 * k < 1024 + 8 ∧ Row wr w.heap.size v (8 * k) (strB x y k) ∧ Below w.heap.size w wr) (fun _ iv _ => 1024 + 8 - 8 * (intOf iv).toNat)
  case atStart => exact ⟨0, rfl, by omega, Row.of_own (by simpa [strB, bv] using HO.out), HB1.out⟩
  case round =>
    obtain ⟨k, rfl, hk, hR, hb⟩ := hrel
    obtain ⟨A, cap, rfl, hcap, hcm, hy⟩ := hR.bytes (strB_rng x y k)
    have HR := Lib.hid hR
    have HY := Lib.hid hy
    have HB := Lib.hid hb
    have hsz := hb.size
    clear hR hy hb
    by_cases hlt : 8 * k < 1024
    · have hltI : ((8 * k : Nat) : Int) < (1024 : Int) := by omega
      have hltI2 : 8 * (k : Int) < (1024 : Int) := by omega
      have hkv : (k : Int) = val (BitVec.ofInt 64 (k : Int)) := val_of (by omega) (by omega)
      have hW2 := Ws.two wr y (BitVec.ofInt 64 (k : Int))
      rw [← hkv] at hW2
      have HW2 := Lib.hid hW2
      clear hkv hW2
      obtain ⟨m, hm⟩ : ∃ m, sipMac x 5 (wsBytes [y, BitVec.ofInt 64 (k : Int)]) = m := ⟨_, rfl⟩
      have HM := Lib.hid hm
      have HBK : Hid (strB x y k ++ wsBytes [m] = strB x y (k + 1)) := Lib.hid (by rw [← strB_succ]; unfold blk; rw [hm])
      clear hm
      go_wp2_with fail
      refine (words_any _ 2 2 _ _ HW2.out (by omega)).mono ?_
      rintro e w2 ⟨v2, rfl, ho2, hb2⟩
      obtain ⟨A2, k2, rfl, hk2, hm2, hy2⟩ := own_bytes ho2 (wsBytes_rng _)
      have HY2 := Lib.hid hy2
      have HB2 := Lib.hid (((Below.refl wr.heap.size wr).alloc (Nat.le_refl _) (.cells #[.int .u64 (val y), .int .u64 (k : Int)] 22)).trans (hb2.mono (by simp)))
      clear ho2 hb2 hy2
      go_wp2_with fail
      refine (mac_any x 5 A2 _ k2 _ w2 HY2.out hk2 hm2).mono ?_
      rintro e w3 ⟨rfl, hb3⟩
      rw [HM.out]
      have HB3 := Lib.hid (HB2.out.trans (hb3.mono HB2.out.size))
      clear hb3
      go_wp2_with fail
      refine (words_any (some ⟨w3.heap.size, 0, none⟩) 1 1 [m] _ (Ws.one w3 m) (by omega)).mono ?_
      rintro e w4 ⟨v4, rfl, ho4, hb4⟩
      obtain ⟨A4, k4, rfl, _, _, hy4⟩ := own_bytes ho4 (wsBytes_rng _)
      have HY4 := Lib.hid hy4
      have HB4 := Lib.hid ((HB3.out.alloc HB3.out.size (.cells #[.int .u64 (val m)] 22)).trans (hb4.mono (by have := HB3.out.size; simp; omega)))
      have HR4 := Lib.hid (HR.out.below HB4.out)
      have hs4 := HB4.out.size
      clear ho4 hb4 hy4
      go_wp2_with (at_builtin; refine app_row rfl _ _ rfl w.heap.size _ (8 * k) (strB x y k) A4 (8 * 1) k4 (wsBytes [m]) HR4.out rfl HY4.out rfl (by omega) (by omega) ?_)
      intro v5 w5 hr5 hb5
      have HR5 : Hid (Row w5 w.heap.size v5 (8 * (k + 1)) (strB x y (k + 1))) := Lib.hid (by rw [← HBK.out]; exact hr5)
      have HB5 := Lib.hid ((HB.out.trans (HB4.out.mono hsz)).trans hb5)
      clear hr5 hb5
      go_wp2
      go_roundw
      case rel => exact ⟨k + 1, by go_num, by omega, HR5.out, HB5.out⟩
      case measure => (simp [intOf] <;> omega)
    · have hltI : ¬ ((8 * k : Nat) : Int) < (1024 : Int) := by omega
      have hltI2 : ¬ 8 * (k : Int) < (1024 : Int) := by omega
      have hNc : 1024 ≤ cap := by omega
      have hNcI : (1024 : Int) ≤ (cap : Int) := by omega
      have hN0 : (0 : Int) ≤ (1024 : Int) := by omega
      have hkk : (1024 + 7) / 8 = k := by omega
      have HYN : Hid (Row wr w.heap.size (.slice A 1024 cap) 1024 (strN x y 1024)) := Lib.hid (by unfold strN; rw [hkk]; exact HR.out.cut 1024 (by omega))
      clear hkk
      go_wp2
      go_ret
      exact ⟨_, rfl, HYN.out, HB.out⟩
theorem streamE_neg (x y : BitVec 64) (z : Int) (w : World) (hz : z < 0) :
    Calls Try.prog 9 #[.int .u64 (val x), .int .u64 (val y), .int .i64 z] w fun e w' => ∃ v, e = .returned v ∧ Row w' w.heap.size v 0 [] ∧ Below w.heap.size w w' := by
  have h0 : ¬ (1024 : Int) < 0 := by decide
  obtain ⟨i0, hi, hz0, hz1, hz2⟩ := info_parts infoB
  obtain ⟨w1, hmk, hown1, hg1⟩ := run_make_own (P := Try.prog) w w.heap.size 23 5 i0 (.int .u8 0) 1 Try.underlying23 hi hz0 hz1 .i64 .i64 (8) (by rw [hz2]; omega) (by unfold maxLen; omega) (Nat.le_refl _)
  rw [show (((8 : Nat)) : Int) = 8 by rfl] at hmk
  have hb1 : Below w.heap.size w w1 := (Below.refl _ w).grown hg1 (Nat.le_refl _) (by intro k hk; cases hk)
  have HO := Lib.hid hown1
  have HB1 := Lib.hid hb1
  clear hown1 hz0 hz1 hz2 hi hb1 hg1
  go_enter Try.func9, Try.ntmps9
  go_wp2_with fail
  clear hmk
  go_loopw [7, 8] (fun v iv wr => v = .slice (some ⟨w.heap.size, 0, none⟩) 0 8 ∧ iv = .int .u64 0 ∧ wr = w1) (fun _ _ _ => 0)
  case atStart => exact ⟨rfl, rfl, rfl⟩
  case round =>
    obtain ⟨rfl, rfl, rfl⟩ := hrel
    go_wp2
    go_ret
    exact ⟨_, rfl, Row.of_own (by simpa [bv] using HO.out), HB1.out⟩
theorem streamE_any (x y : BitVec 64) (z : Int) (w : World) :
    Calls Try.prog 9 #[.int .u64 (val x), .int .u64 (val y), .int .i64 z] w fun e w' => ∃ v, e = .returned v ∧ Row w' w.heap.size v (askN z) (strN x y (askN z)) ∧ Below w.heap.size w w' := by
  by_cases h0 : z < 0
  · have e : askN z = 0 := by unfold askN; rw [if_pos h0]
    rw [e]
    rw [show strN x y 0 = [] by simp [strN]]
    exact streamE_neg x y z w h0
  · by_cases h1 : 1024 < z
    · have e : askN z = 1024 := by unfold askN; rw [if_neg h0, if_pos h1]
      rw [e]
      exact streamE_big x y z w h1
    · have e : askN z = z.toNat := by unfold askN; rw [if_neg h0, if_neg h1]
      rw [e]
      exact streamE_mid x y z z.toNat w (by omega) (by omega)
end Go.Proofs.Ytgfcbgnlkiebhaa
