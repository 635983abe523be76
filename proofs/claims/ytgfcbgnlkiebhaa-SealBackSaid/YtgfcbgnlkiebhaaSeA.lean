/- Stream of the reference. -/
import Derived.Test.YtgfcbgnlkiebhaaSipR
namespace Go.Proofs.Ytgfcbgnlkiebhaa
open Go.RowKit
set_option maxRecDepth 100000

/-- a block of the stream, its first k blocks, its first n bytes -/
def blk (x y : BitVec 64) (i : Nat) : List Int := wsBytes [sipMac x 5 (wsBytes [y, BitVec.ofInt 64 (i : Int)])]
def strB (x y : BitVec 64) (k : Nat) : List Int := (List.range k).flatMap (blk x y)
def strN (x y : BitVec 64) (n : Nat) : List Int := (strB x y ((n + 7) / 8)).take n
theorem strB_succ (x y : BitVec 64) (k : Nat) : strB x y k ++ blk x y k = strB x y (k + 1) := by simp [strB, List.range_succ]
theorem blk_len (x y : BitVec 64) (i : Nat) : (blk x y i).length = 8 := by unfold blk; rw [wsBytes_len]; rfl
theorem strB_len (x y : BitVec 64) : ∀ k, (strB x y k).length = 8 * k
  | 0 => by simp [strB]
  | k + 1 => by rw [← strB_succ, List.length_append, strB_len x y k, blk_len]; omega
theorem strB_rng (x y : BitVec 64) (k : Nat) : ∀ z ∈ strB x y k, 0 ≤ z ∧ z ≤ 255 := by
  intro z hz
  obtain ⟨i, _, hi⟩ := List.mem_flatMap.1 hz
  exact wsBytes_rng _ z hi
theorem Ws.two (w : World) (x y : BitVec 64) : Ws (w.alloc (.cells #[.int .u64 (val x), .int .u64 (val y)] 22)) (some ⟨w.heap.size, 0, none⟩) 2 [x, y] := by
  refine ⟨rfl, fun i hi => ⟨_, rfl, ?_⟩⟩
  rw [addr_add]
  have h := heap_alloc_new w (.cells #[.int .u64 (val x), .int .u64 (val y)] 22)
  rcases (by omega : i = 0 ∨ i = 1) with rfl | rfl
  · unfold World.cell?
    rw [h]
    rfl
  · unfold World.cell?
    rw [h]
    rfl
set_option maxHeartbeats 2000000 in
theorem streamR_mid (x y : BitVec 64) (z : Int) (N : Nat) (w : World) (hz : z = (N : Int)) (hN : N ≤ 1024) :
    Calls Try.prog 10 #[.int .u64 (val x), .int .u64 (val y), .int .i64 z] w fun e w' => ∃ A c, e = .returned (.slice A N c) ∧ Bytes w' A N (strN x y N) ∧ N ≤ c ∧ Below w.heap.size w w' := by
  subst hz
  have h0 : ¬ (N : Int) < 0 := by omega
  have h1 : ¬ (1024 : Int) < (N : Int) := by omega
  go_enter Try.func10, Try.ntmps10
  go_wp2_with fail
  go_loopw [7, 8] (fun v iv wr => ∃ k : Nat, iv = .int .i64 (k : Int) ∧ 8 * k < N + 8 ∧ Row wr w.heap.size v (8 * k) (strB x y k) ∧ Below w.heap.size w wr) (fun _ iv _ => N + 8 - 8 * (intOf iv).toNat)
  case atStart => exact ⟨0, rfl, by omega, Row.nil _ _, Below.refl _ _⟩
  case round =>
    obtain ⟨k, rfl, hk, hR, hb⟩ := hrel
    obtain ⟨A, cap, rfl, hcap, hcm, hy⟩ := hR.bytes (strB_rng x y k)
    have HR := Lib.hid hR
    have HY := Lib.hid hy
    have HB := Lib.hid hb
    have hsz := hb.size
    clear hR hy hb
    by_cases hlt : 8 * k < N
    · have hltI : ((8 * k : Nat) : Int) < (N : Int) := by omega
      have hltI2 : 8 * (k : Int) < (N : Int) := by omega
      have hkw : IntKind.u64.wrap (k : Int) = (k : Int) := by rw [IntKind.wrap_u64]; omega
      have hkv : (k : Int) = val (BitVec.ofInt 64 (k : Int)) := val_of (by omega) (by omega)
      have hW2 := Ws.two wr y (BitVec.ofInt 64 (k : Int))
      rw [← hkv] at hW2
      have HW2 := Lib.hid hW2
      clear hkv hW2
      obtain ⟨m, hm⟩ : ∃ m, sipMac x 5 (wsBytes [y, BitVec.ofInt 64 (k : Int)]) = m := ⟨_, rfl⟩
      have HM := Lib.hid hm
      have HBK : Hid (strB x y k ++ wsBytes [m] = strB x y (k + 1)) := Lib.hid (by rw [← strB_succ]; unfold blk; rw [hm])
      clear hm
      go_wp2_with fail
      refine (wordsR_any _ 2 2 _ _ HW2.out (by omega)).mono ?_
      rintro e w2 ⟨v2, rfl, ho2, hb2⟩
      obtain ⟨A2, k2, rfl, _, _, hy2⟩ := own_bytes ho2 (wsBytes_rng _)
      have HY2 := Lib.hid hy2
      have HB2 := Lib.hid (((Below.refl wr.heap.size wr).alloc (Nat.le_refl _) (.cells #[.int .u64 (val y), .int .u64 (k : Int)] 22)).trans (hb2.mono (by simp)))
      clear ho2 hb2 hy2
      go_wp2_with fail
      refine (macR_any x 5 A2 _ k2 _ w2 HY2.out (by omega)).mono ?_
      rintro e w3 ⟨rfl, hb3⟩
      rw [HM.out]
      have HB3 := Lib.hid (HB2.out.trans (hb3.mono HB2.out.size))
      clear hb3
      go_wp2_with fail
      refine (wordsR_any (some ⟨w3.heap.size, 0, none⟩) 1 1 [m] _ (Ws.one w3 m) (by omega)).mono ?_
      rintro e w4 ⟨v4, rfl, ho4, hb4⟩
      obtain ⟨A4, k4, rfl, _, _, hy4⟩ := own_bytes ho4 (wsBytes_rng _)
      have HY4 := Lib.hid hy4
      have HB4 := Lib.hid ((HB3.out.alloc HB3.out.size (.cells #[.int .u64 (val m)] 22)).trans (hb4.mono (by have := HB3.out.size; simp; omega)))
      have HR4 := Lib.hid (HR.out.below HB4.out)
      have hs4 := HB4.out.size
      clear ho4 hb4 hy4
      go_wp2_with (at_builtin; refine app_row rfl _ _ rfl w.heap.size _ (8 * k) (strB x y k) A4 (8 * 1) k4 (wsBytes [m]) HR4.out rfl HY4.out rfl (by omega) (by omega) ?_)
      intro v5 w5 hr5 hb5
      have HR5 : Hid (Row w5 w.heap.size v5 (8 * (k + 1)) (strB x y (k + 1))) := Lib.hid (by rw [← HBK.out]; exact hr5)
      have HB5 := Lib.hid ((HB.out.trans (HB4.out.mono hsz)).trans hb5)
      clear hr5 hb5
      go_wp2
      go_roundw
      case rel => exact ⟨k + 1, by go_num, by omega, HR5.out, HB5.out⟩
      case measure => (simp [intOf] <;> omega)
    · have hltI : ¬ ((8 * k : Nat) : Int) < (N : Int) := by omega
      have hltI2 : ¬ 8 * (k : Int) < (N : Int) := by omega
      have hNc : N ≤ cap := by omega
      have hNcI : (N : Int) ≤ (cap : Int) := by omega
      have hN0 : (0 : Int) ≤ (N : Int) := by omega
      have hkk : (N + 7) / 8 = k := by omega
      have HYN : Hid (Bytes wr A N (strN x y N)) := Lib.hid (by unfold strN; rw [hkk]; exact HY.out.take N (by omega))
      clear hkk
      go_wp2
      go_ret
      exact ⟨A, cap, rfl, HYN.out, hNc, HB.out⟩
set_option maxHeartbeats 2000000 in
theorem streamR_big (x y : BitVec 64) (z : Int) (w : World) (hz : 1024 < z) :
    Calls Try.prog 10 #[.int .u64 (val x), .int .u64 (val y), .int .i64 z] w fun e w' => ∃ A c, e = .returned (.slice A 1024 c) ∧ Bytes w' A 1024 (strN x y 1024) ∧ 1024 ≤ c ∧ Below w.heap.size w w' := by
  have h0 : ¬ z < 0 := by omega
  go_enter Try.func10, Try.ntmps10
  go_wp2_with fail
  go_loopw [7, 8] (fun v iv wr => ∃ k : Nat, iv = .int .i64 (k : Int) ∧ 8 * k < 1024 + 8 ∧ Row wr w.heap.size v (8 * k) (strB x y k) ∧ Below w.heap.size w wr) (fun _ iv _ => 1024 + 8 - 8 * (intOf iv).toNat)
  case atStart => exact ⟨0, rfl, by omega, Row.nil _ _, Below.refl _ _⟩
  case round =>
    obtain ⟨k, rfl, hk, hR, hb⟩ := hrel
    obtain ⟨A, cap, rfl, hcap, hcm, hy⟩ := hR.bytes (strB_rng x y k)
    have HR := Lib.hid hR
    have HY := Lib.hid hy
    have HB := Lib.hid hb
    have hsz := hb.size
    clear hR hy hb
    by_cases hlt : 8 * k < 1024
    · have hltI : ((8 * k : Nat) : Int) < (1024 : Int) := by omega
      have hltI2 : 8 * (k : Int) < (1024 : Int) := by omega
      have hkw : IntKind.u64.wrap (k : Int) = (k : Int) := by rw [IntKind.wrap_u64]; omega
      have hkv : (k : Int) = val (BitVec.ofInt 64 (k : Int)) := val_of (by omega) (by omega)
      have hW2 := Ws.two wr y (BitVec.ofInt 64 (k : Int))
      rw [← hkv] at hW2
      have HW2 := Lib.hid hW2
      clear hkv hW2
      obtain ⟨m, hm⟩ : ∃ m, sipMac x 5 (wsBytes [y, BitVec.ofInt 64 (k : Int)]) = m := ⟨_, rfl⟩
      have HM := Lib.hid hm
      have HBK : Hid (strB x y k ++ wsBytes [m] = strB x y (k + 1)) := Lib.hid (by rw [← strB_succ]; unfold blk; rw [hm])
      clear hm
      go_wp2_with fail
      refine (wordsR_any _ 2 2 _ _ HW2.out (by omega)).mono ?_
      rintro e w2 ⟨v2, rfl, ho2, hb2⟩
      obtain ⟨A2, k2, rfl, _, _, hy2⟩ := own_bytes ho2 (wsBytes_rng _)
      have HY2 := Lib.hid hy2
      have HB2 := Lib.hid (((Below.refl wr.heap.size wr).alloc (Nat.le_refl _) (.cells #[.int .u64 (val y), .int .u64 (k : Int)] 22)).trans (hb2.mono (by simp)))
      clear ho2 hb2 hy2
      go_wp2_with fail
      refine (macR_any x 5 A2 _ k2 _ w2 HY2.out (by omega)).mono ?_
      rintro e w3 ⟨rfl, hb3⟩
      rw [HM.out]
      have HB3 := Lib.hid (HB2.out.trans (hb3.mono HB2.out.size))
      clear hb3
      go_wp2_with fail
      refine (wordsR_any (some ⟨w3.heap.size, 0, none⟩) 1 1 [m] _ (Ws.one w3 m) (by omega)).mono ?_
      rintro e w4 ⟨v4, rfl, ho4, hb4⟩
      obtain ⟨A4, k4, rfl, _, _, hy4⟩ := own_bytes ho4 (wsBytes_rng _)
      have HY4 := Lib.hid hy4
      have HB4 := Lib.hid ((HB3.out.alloc HB3.out.size (.cells #[.int .u64 (val m)] 22)).trans (hb4.mono (by have := HB3.out.size; simp; omega)))
      have HR4 := Lib.hid (HR.out.below HB4.out)
      have hs4 := HB4.out.size
      clear ho4 hb4 hy4
      go_wp2_with (at_builtin; refine app_row rfl _ _ rfl w.heap.size _ (8 * k) (strB x y k) A4 (8 * 1) k4 (wsBytes [m]) HR4.out rfl HY4.out rfl (by omega) (by omega) ?_)
      intro v5 w5 hr5 hb5
      have HR5 : Hid (Row w5 w.heap.size v5 (8 * (k + 1)) (strB x y (k + 1))) := Lib.hid (by rw [← HBK.out]; exact hr5)
      have HB5 := Lib.hid ((HB.out.trans (HB4.out.mono hsz)).trans hb5)
      clear hr5 hb5
      go_wp2
      go_roundw
      case rel => exact ⟨k + 1, by go_num, by omega, HR5.out, HB5.out⟩
      case measure => (simp [intOf] <;> omega)
    · have hltI : ¬ ((8 * k : Nat) : Int) < (1024 : Int) := by omega
      have hltI2 : ¬ 8 * (k : Int) < (1024 : Int) := by omega
      have hNc : 1024 ≤ cap := by omega
      have hNcI : (1024 : Int) ≤ (cap : Int) := by omega
      have hN0 : (0 : Int) ≤ (1024 : Int) := by omega
      have hkk : (1024 + 7) / 8 = k := by omega
      have HYN : Hid (Bytes wr A 1024 (strN x y 1024)) := Lib.hid (by unfold strN; rw [hkk]; exact HY.out.take 1024 (by omega))
      clear hkk
      go_wp2
      go_ret
      exact ⟨A, cap, rfl, HYN.out, hNc, HB.out⟩
theorem streamR_neg (x y : BitVec 64) (z : Int) (w : World) (hz : z < 0) :
    Calls Try.prog 10 #[.int .u64 (val x), .int .u64 (val y), .int .i64 z] w fun e w' => e = .returned (.slice none 0 0) ∧ w = w' := by
  have h0 : ¬ (1024 : Int) < 0 := by decide
  go_enter Try.func10, Try.ntmps10
  go_wp2_with fail
  go_loopw [7, 8] (fun v iv wr => v = .slice none 0 0 ∧ iv = .int .i64 0 ∧ wr = w) (fun _ _ _ => 0)
  case atStart => exact ⟨rfl, rfl, rfl⟩
  case round =>
    obtain ⟨rfl, rfl, rfl⟩ := hrel
    go_wp2
    go_ret
    exact ⟨rfl, rfl⟩
/-- how many bytes are asked -/
def askN (z : Int) : Nat := if z < 0 then 0 else if 1024 < z then 1024 else z.toNat
theorem askN_le (z : Int) : askN z ≤ 1024 := by unfold askN; split <;> (try split) <;> omega
theorem streamR_any (x y : BitVec 64) (z : Int) (w : World) :
    Calls Try.prog 10 #[.int .u64 (val x), .int .u64 (val y), .int .i64 z] w fun e w' => ∃ A c, e = .returned (.slice A (askN z) c) ∧ Bytes w' A (askN z) (strN x y (askN z)) ∧ askN z ≤ c ∧ Below w.heap.size w w' := by
  by_cases h0 : z < 0
  · have e : askN z = 0 := by unfold askN; rw [if_pos h0]
    rw [e]
    refine (streamR_neg x y z w h0).mono ?_
    rintro e w' ⟨rfl, rfl⟩
    exact ⟨none, 0, rfl, ⟨by simp [strN], fun z hz => by simp [strN] at hz, fun i hi => absurd hi (by omega)⟩, Nat.le_refl _, Below.refl _ _⟩
  · by_cases h1 : 1024 < z
    · have e : askN z = 1024 := by unfold askN; rw [if_neg h0, if_pos h1]
      rw [e]
      exact streamR_big x y z w h1
    · have e : askN z = z.toNat := by unfold askN; rw [if_neg h0, if_neg h1]
      rw [e]
      exact streamR_mid x y z z.toNat w (by omega) (by omega)
end Go.Proofs.Ytgfcbgnlkiebhaa
