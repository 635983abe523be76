/- Sign and Recover of the program. -/
import Derived.Test.YthgahjihgoiklaaOtG
namespace Go.Proofs.Ythgahjihgoiklaa
open Go.RowKit
set_option maxRecDepth 100000

theorem iv_dig (m : BitVec 64) (k : Nat) (hk : k < 18) : (iv (digits m)).toArray[k]? = some (.int .i64 (dig m k)) := by
  rw [List.getElem?_toArray, iv_at _ _ (by rw [digits_len]; exact hk), digits_at m k hk]

theorem index_int {D : Array Value} {k : Nat} {z : Int} (hD : D[k]? = some (.int .i64 z)) (hk : k < 18) (W : World) :
    (Instr.index 75 (.agg D) (.int .i64 (k : Int))).run Try.prog W = .ok (.int .i64 z) W := by
  have hs : (sizeOf 3).run Try.prog W = .ok 1 W := by
    obtain ⟨i0, hi, hz0, hz1, hz2⟩ := info_parts infoI
    simp [sizeOf, typeInfo, hi, hz1]
  have hp : (part 3 D k).run Try.prog W = .ok (.int .i64 z) W := by
    simp [part, isAgg, run_underlying Try.underlying3, hD]
  have hi : (0 : Int) ≤ (k : Int) ∧ (k : Int) < 18 := by omega
  simp [Instr.index, asIntOf, run_underlying Try.underlying75, hs, hp, hi]
  intro h
  omega

set_option maxHeartbeats 1000000 in
theorem sign_any (s : BitVec 64) (l : Int) (m : BitVec 64) (w : World) :
    Calls Try.prog 31 #[.int .u64 (val s), .int .i64 l, .int .u64 (val m)] w fun e w' => e = .returned (.slice (some ⟨w.heap.size, 0, none⟩) 18 18) ∧ Cs w' w.heap.size 73 (wv (vals (sigF s l m))) ∧ Below w.heap.size w w' := by
  go_enter Try.func31, Try.ntmps31
  go_wp2_with fail
  have HZ := Lib.hid (Cs.zeros w 73 (sigF s l m))
  refine (split_any m _).mono ?_
  rintro e w0 ⟨rfl, hb0⟩
  have HZ0 := Lib.hid (HZ.out.below hb0 (by simp))
  have HB0 := Lib.hid (((Below.refl _ w).alloc (Nat.le_refl _) (.cells (wv (fillTo 0#64 18 (sigF s l m) 0)).toArray 73)).trans (hb0.mono (by simp)))
  clear hb0
  have hD : ∃ D : Array Value, D = (iv (digits m)).toArray := ⟨_, rfl⟩
  obtain ⟨D, hD⟩ := hD
  rw [← hD]
  have HD := Lib.hid hD
  clear hD HZ
  go_wp2
  go_loopw [12] (fun i wr => ∃ k : Nat, i = .int .i64 k ∧ k ≤ 18 ∧ Cs wr w.heap.size 73 (wv (fillTo 0#64 18 (sigF s l m) k)) ∧ Below w.heap.size w wr) (fun i _ => 18 - (intOf i).toNat)
  case atStart => exact ⟨0, rfl, Nat.zero_le _, HZ0.out, HB0.out⟩
  case round =>
    obtain ⟨k, rfl, hk, hC, hbk⟩ := hrel
    have hsz := hbk.size
    have hlt := hC.lt
    have HC := Lib.hid hC
    have HB := Lib.hid hbk
    clear hC hbk
    by_cases hk18 : k < 18
    · have hdk := iv_dig m k hk18
      rw [← HD.out] at hdk
      have hix := index_int hdk hk18 wr
      have Hdk := Lib.hid hdk
      clear hdk
      go_wp2_with fail
      refine (secret_any s l k _).mono ?_
      rintro e w1 ⟨rfl, hb1⟩
      have HB1 := Lib.hid (HB.out.trans (hb1.mono hsz))
      go_wp2_with fail
      refine (run_any l k 0 (dig m k) _ _ (by omega)).mono ?_
      rintro e w2 ⟨rfl, hb2⟩
      have hb12 := hb1.trans (hb2.mono hb1.size)
      have HB2 := Lib.hid (HB.out.trans (hb12.mono hsz))
      rw [show runF l k 0 (dig m k) (secF s l k) = sigF s l m k from rfl]
      obtain ⟨c1, c2, c3⟩ := fill_set HC.out hb12 hlt hk18
      have HC3 := Lib.hid c3
      clear c3 hb1 hb2 hb12
      go_wp2
      go_roundw
      case rel => exact ⟨k + 1, by go_num, by omega, HC3.out, HB2.out.setCell (Nat.le_refl _) _⟩
      case measure => (simp [intOf] <;> omega)
    · have hk' : k = 18 := by omega
      subst hk'
      have hC := HC.out
      rw [fillTo_all] at hC
      go_wp2
      go_ret
      exact ⟨rfl, hC, HB.out⟩

set_option maxHeartbeats 1000000 in
theorem rec_any (l : Int) (m : BitVec 64) (B : Option Addr) (c : Nat) (ws : List (BitVec 64)) (w : World) (hw : Ws w B 18 ws) :
    Calls Try.prog 34 #[.int .i64 l, .int .u64 (val m), .slice B 18 c] w fun e w' => e = .returned (.tuple #[.int .u64 (val (recF l m ws)), .int .i64 0]) ∧ Below w.heap.size w w' := by
  go_enter Try.func34, Try.ntmps34
  go_wp2_with fail
  have HZ := Lib.hid (Cs.zeros w 73 (recV l m ws))
  have HW := Lib.hid hw
  clear hw
  refine (split_any m _).mono ?_
  rintro e w0 ⟨rfl, hb0⟩
  have HZ0 := Lib.hid (HZ.out.below hb0 (by simp))
  have HB0 := Lib.hid (((Below.refl _ w).alloc (Nat.le_refl _) (.cells (wv (fillTo 0#64 18 (recV l m ws) 0)).toArray 73)).trans (hb0.mono (by simp)))
  clear hb0
  have hD : ∃ D : Array Value, D = (iv (digits m)).toArray := ⟨_, rfl⟩
  obtain ⟨D, hD⟩ := hD
  rw [← hD]
  have HD := Lib.hid hD
  clear hD HZ
  go_wp2
  go_loopw [16] (fun i wr => ∃ k : Nat, i = .int .i64 k ∧ k ≤ 18 ∧ Cs wr w.heap.size 73 (wv (fillTo 0#64 18 (recV l m ws) k)) ∧ Below w.heap.size w wr) (fun i _ => 18 - (intOf i).toNat)
  case atStart => exact ⟨0, rfl, Nat.zero_le _, HZ0.out, HB0.out⟩
  case round =>
    obtain ⟨k, rfl, hk, hC, hbk⟩ := hrel
    have hsz := hbk.size
    have hlt := hC.lt
    have HC := Lib.hid hC
    have HB := Lib.hid hbk
    clear hC hbk
    by_cases hk18 : k < 18
    · have hdk := iv_dig m k hk18
      rw [← HD.out] at hdk
      have hix := index_int hdk hk18 wr
      have Hdk := Lib.hid hdk
      clear hdk
      obtain ⟨b0, rfl, hcb⟩ := (HW.out.below HB.out).at_ k hk18
      obtain ⟨x, hx⟩ : ∃ x, ws.getD k 0 = x := ⟨_, rfl⟩
      rw [hx] at hcb
      have Hx := Lib.hid hx
      clear hx
      go_wp2_with fail
      refine (run_any l k (dig m k) 15 _ _ (by have := dig_rng m k; omega)).mono ?_
      rintro e w2 ⟨rfl, hb2⟩
      have HB2 := Lib.hid (HB.out.trans (hb2.mono hsz))
      rw [show runF l k (dig m k) 15 x = recV l m ws k by rw [← Hx.out]; rfl]
      obtain ⟨c1, c2, c3⟩ := fill_set HC.out hb2 hlt hk18
      have HC3 := Lib.hid c3
      clear c3 hb2 hcb
      go_wp2
      go_roundw
      case rel => exact ⟨k + 1, by go_num, by omega, HC3.out, HB2.out.setCell (Nat.le_refl _) _⟩
      case measure => (simp [intOf] <;> omega)
    · have hk' : k = 18 := by omega
      subst hk'
      have hC := HC.out
      rw [fillTo_all] at hC
      have HV := Lib.hid hC
      clear hC HC
      go_wp2_with (first
        | (refine wpList_load_cs (o := ⟨_, .load _ _, _, _, _, _⟩) rfl _ _ rfl _ rfl _ _ HV.out 18 22 Try.underlying73 (by rw [size_values, wv_len]; simp) ?_)
        | fail)
      refine (public_any l (vals (recV l m ws)) (vals_len _) _).mono ?_
      rintro e w3 ⟨rfl, hb3⟩
      go_wp2
      go_ret2
      exact ⟨rfl, HB.out.trans (hb3.mono hsz)⟩
end Go.Proofs.Ythgahjihgoiklaa
