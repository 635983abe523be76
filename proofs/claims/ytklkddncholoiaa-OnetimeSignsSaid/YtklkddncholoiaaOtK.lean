/- The law OnetimeSigns, walked. -/
import Derived.Test.YtklkddncholoiaaOtJ
namespace Go.Proofs.Ytklkddncholoiaa
open Go.RowKit
set_option maxRecDepth 100000

theorem val_and_small (x : BitVec 64) (z : Int) (h0 : 0 ≤ z) (h1 : z ≤ 255) : bits .and .u64 (val x) z = val (x &&& BitVec.ofInt 64 z) := by
  rw [← val_and, ← val_of h0 (by omega)]

theorem own_set {w : World} {base g n cap : Nat} {ws : List (BitVec 64)} (h : w.ownsRow base 22 1 (.slice (some ⟨g, 0, none⟩) n cap) n (wv ws)) (hb : base ≤ g) (i : Nat) (x : BitVec 64) :
    (w.setCell ⟨g, i, none⟩ (.int .u64 (val x))).ownsRow base 22 1 (.slice (some ⟨g, 0, none⟩) n cap) n (wv (ws.set i x)) ∧ Below base w (w.setCell ⟨g, i, none⟩ (.int .u64 (val x))) := by
  rw [wv_set]
  exact ⟨(World.ownsRow.stored h i _).1, (Below.refl base w).setCell hb _⟩

set_option maxHeartbeats 1000000 in
theorem signs_big (s : BitVec 64) (l : Int) (m : BitVec 64) (A : Option Addr) (n c : Nat) (z : Int) (w : World) (hn : 40 < n) :
    Calls Try.prog 8 #[.int .u64 (val s), .int .i64 l, .int .u64 (val m), .slice A n c, .int .u8 z] w fun e w' => e = .returned (.bool true) ∧ Below w.heap.size w w' := by
  go_enter Try.func8, Try.ntmps8
  go_wp2_with fail
  refine (awakeO_any _).mono ?_
  rintro e w1 ⟨rfl, hb1⟩
  go_wp2
  go_ret
  exact ⟨rfl, hb1⟩

/-- both Recover answer alike, and what they answer -/
def recA (l : Int) (m : BitVec 64) (ws : List (BitVec 64)) : Int := if ws.length = 18 then val (recF l m ws) else 0
def recE (ws : List (BitVec 64)) : Int := if ws.length = 18 then 0 else 4
theorem rec_all (l : Int) (m : BitVec 64) (B : Option Addr) (n c : Nat) (ws : List (BitVec 64)) (w : World) (hw : Ws w B n ws) :
    Calls Try.prog 23 #[.int .i64 l, .int .u64 (val m), .slice B n c] w fun e w' => e = .returned (.tuple #[.int .u64 (recA l m ws), .int .i64 (recE ws)]) ∧ Below w.heap.size w w' := by
  unfold recA recE
  rw [hw.len]
  by_cases h : n = 18
  · subst h
    exact rec_any l m B c ws w hw
  · rw [if_neg h, if_neg h]
    exact rec_bad l m B n c w h
theorem recR_all (l : Int) (m : BitVec 64) (B : Option Addr) (n c : Nat) (ws : List (BitVec 64)) (w : World) (hw : Ws w B n ws) :
    Calls Try.prog 24 #[.int .i64 l, .int .u64 (val m), .slice B n c] w fun e w' => e = .returned (.tuple #[.int .u64 (recA l m ws), .int .i64 (recE ws)]) ∧ Below w.heap.size w w' := by
  unfold recA recE
  rw [hw.len]
  by_cases h : n = 18
  · subst h
    exact recR_any l m B c ws w hw
  · rw [if_neg h, if_neg h]
    exact recR_bad l m B n c w h

set_option maxHeartbeats 1000000 in
theorem signs_small (s : BitVec 64) (l : Int) (m : BitVec 64) (A : Option Addr) (n c : Nat) (ws : List (BitVec 64)) (z : Int) (w : World) (hw : Ws w A n ws) (hn : n ≤ 40) (hz0 : 0 ≤ z) (hz1 : z ≤ 255) :
    Calls Try.prog 8 #[.int .u64 (val s), .int .i64 l, .int .u64 (val m), .slice A n c, .int .u8 z] w fun e w' => e = .returned (.bool true) ∧ Below w.heap.size w w' := by
  go_enter Try.func8, Try.ntmps8
  have HW := Lib.hid hw
  clear hw
  go_wp2_with fail
  refine (sign_any s l m _).mono ?_
  rintro e w1 ⟨rfl, hC, hb1⟩
  have HC := Lib.hid hC
  have HB1 := Lib.hid hb1
  have hsz1 := hb1.size
  have hlt1 := hC.lt
  clear hC hb1
  go_wp2_with fail
  refine (signR_any s l m _).mono ?_
  rintro e w2 ⟨v2, rfl, ho2, hb2⟩
  obtain ⟨g, cap, rfl⟩ : ∃ g cap, v2 = .slice (some ⟨g, 0, none⟩) 18 cap := by
    rcases ho2.2 with ⟨_, h⟩ | ⟨g, cap, _, h, _⟩
    · omega
    · exact ⟨g, cap, h⟩
  have hbg : w1.heap.size ≤ g := by
    rcases ho2.2 with ⟨h, _⟩ | ⟨g', cap', _, h, hg, _⟩
    · cases h
    · cases h; exact hg
  have HO2 := Lib.hid ho2
  have HB2 := Lib.hid hb2
  have hsz2 := hb2.size
  clear ho2 hb2
  go_wp2_with fail
  refine (rec_all l m A n c ws _ ((HW.out.below HB1.out).below (HB2.out.mono (Nat.le_refl _)))).mono ?_
  rintro e w3 ⟨rfl, hb3⟩
  have HB3 := Lib.hid hb3
  have HO3 := Lib.hid (owns_below HO2.out hb3)
  have HB23 := Lib.hid (HB2.out.trans (hb3.mono hsz2))
  have hsz3 := HB23.out.size
  clear hb3
  go_wp2_with fail
  refine (recR_all l m A n c ws _ ((HW.out.below HB1.out).below HB23.out)).mono ?_
  rintro e w4 ⟨rfl, hb4⟩
  have HO4 := Lib.hid (owns_below HO3.out hb4)
  have HB4 := Lib.hid (HB23.out.trans (hb4.mono hsz3))
  have hsz4 := HB4.out.size
  clear hb4 HO2 HO3 HB2 HB3 HB23
  generalize recA l m ws = r1
  generalize recE ws = e1
  go_wp2
  go_loopw [17] (fun i wr => ∃ k : Nat, ∃ us : List (BitVec 64), i = .int .i64 k ∧ k ≤ 40 ∧ us.length = 18 ∧ wr.ownsRow w1.heap.size 22 1 (.slice (some ⟨g, 0, none⟩) 18 cap) 18 (wv us) ∧ Below w1.heap.size w1 wr) (fun i _ => 18 - (intOf i).toNat)
  case atStart => exact ⟨0, _, rfl, Nat.zero_le _, vals_len _, HO4.out, HB4.out⟩
  case round =>
    obtain ⟨k, us, rfl, hk, hul, hO, hbk⟩ := hrel
    have hsz := hbk.size
    have HO := Lib.hid hO
    have HB := Lib.hid hbk
    clear hO hbk
    by_cases hkn : k < n
    · by_cases hk18 : k < 18
      · have hcell := HO.out.cellAt k (by omega)
        have hfr := HO.out.frozenAt k
        rw [wv_at us k (by omega)] at hcell
        obtain ⟨a0, rfl, hca⟩ := ((HW.out.below HB1.out).below HB.out).at_ k hkn
        generalize us.getD k 0 = x at *
        generalize ws.getD k 0 = y at *
        obtain ⟨hO5, hB5⟩ := own_set HO.out hbg k (x ^^^ (y &&& BitVec.ofInt 64 (z % 3)))
        have HO5 := Lib.hid hO5
        have HB5 := Lib.hid (HB.out.trans hB5)
        clear hO5 hB5
        go_wp2
        go_region
        rw [val_and_small y (z % 3) (by omega) (by omega), val_xor]
        go_wp2
        go_roundw
        case rel => exact ⟨k + 1, _, by go_num, by omega, by rw [List.length_set]; exact hul, HO5.out, HB5.out.drew⟩
        case measure => (simp [intOf] <;> omega)
      · obtain ⟨A', cap', hv, hWs⟩ := own_words HO.out
        cases hv
        have HWs := Lib.hid hWs
        clear hWs
        go_wp2_with fail
        refine (rec_all l m _ 18 cap us _ HWs.out).mono ?_
        rintro e w5 ⟨rfl, hb5⟩
        have HB5 := Lib.hid (HB.out.trans (hb5.mono hsz))
        have HWs5 := Lib.hid (HWs.out.below hb5)
        have hsz5 := HB5.out.size
        clear hb5
        go_wp2_with fail
        refine (recR_all l m _ 18 cap us _ HWs5.out).mono ?_
        rintro e w6 ⟨rfl, hb6⟩
        have HB6 := Lib.hid (HB5.out.trans (hb6.mono hsz5))
        have hsz6 := HB6.out.size
        clear hb6
        generalize recA l m us = r2
        generalize recE us = e2
        go_wp2_with fail
        refine (signR_any s l m _).mono ?_
        rintro e w7 ⟨v7, rfl, ho7, hb7⟩
        obtain ⟨A7, cap7, rfl, hW7⟩ := own_words ho7
        have HB7 := Lib.hid (HB6.out.trans (hb7.mono hsz6))
        have hsz7 := HB7.out.size
        have hWa := Ws.of_cs (HC.out.below HB7.out hlt1)
        rw [vals_len] at hWa
        clear hb7 ho7
        go_wp2_with fail
        refine (same_words _ _ 18 _ _ _ _ hWa hW7 (by omega)).mono ?_
        rintro e w8 ⟨rfl, hb8⟩
        have HB8 := Lib.hid (HB7.out.trans (hb8.mono hsz7))
        clear hb8 hWa hW7
        go_wp2_with fail
        refine (awakeO_any _).mono ?_
        rintro e w9 ⟨rfl, hb9⟩
        have HB9 := Lib.hid (HB8.out.trans (hb9.mono HB8.out.size))
        clear hb9
        go_wp2
        go_ret
        exact ⟨rfl, HB1.out.trans (HB9.out.mono hsz1)⟩
    · obtain ⟨A', cap', hv, hWs⟩ := own_words HO.out
      cases hv
      have HWs := Lib.hid hWs
      clear hWs
      go_wp2_with fail
      refine (rec_all l m _ 18 cap us _ HWs.out).mono ?_
      rintro e w5 ⟨rfl, hb5⟩
      have HB5 := Lib.hid (HB.out.trans (hb5.mono hsz))
      have HWs5 := Lib.hid (HWs.out.below hb5)
      have hsz5 := HB5.out.size
      clear hb5
      go_wp2_with fail
      refine (recR_all l m _ 18 cap us _ HWs5.out).mono ?_
      rintro e w6 ⟨rfl, hb6⟩
      have HB6 := Lib.hid (HB5.out.trans (hb6.mono hsz5))
      have hsz6 := HB6.out.size
      clear hb6
      generalize recA l m us = r2
      generalize recE us = e2
      go_wp2_with fail
      refine (signR_any s l m _).mono ?_
      rintro e w7 ⟨v7, rfl, ho7, hb7⟩
      obtain ⟨A7, cap7, rfl, hW7⟩ := own_words ho7
      have HB7 := Lib.hid (HB6.out.trans (hb7.mono hsz6))
      have hsz7 := HB7.out.size
      have hWa := Ws.of_cs (HC.out.below HB7.out hlt1)
      rw [vals_len] at hWa
      clear hb7 ho7
      go_wp2_with fail
      refine (same_words _ _ 18 _ _ _ _ hWa hW7 (by omega)).mono ?_
      rintro e w8 ⟨rfl, hb8⟩
      have HB8 := Lib.hid (HB7.out.trans (hb8.mono hsz7))
      clear hb8 hWa hW7
      go_wp2_with fail
      refine (awakeO_any _).mono ?_
      rintro e w9 ⟨rfl, hb9⟩
      have HB9 := Lib.hid (HB8.out.trans (hb9.mono HB8.out.size))
      clear hb9
      go_wp2
      go_ret
      exact ⟨rfl, HB1.out.trans (HB9.out.mono hsz1)⟩

theorem signs_law_at (x : Int) (hx : 0 ≤ x ∧ x ≤ 18446744073709551615) (l : Int) (y : Int) (hy : 0 ≤ y ∧ y ≤ 18446744073709551615) (A : Option Addr) (n c : Nat) (ws : List (BitVec 64)) (w : World) (hw : Ws w A n ws) (z : Int) (hz : 0 ≤ z ∧ z ≤ 255) :
    Calls Try.prog 8 #[.int .u64 x, .int .i64 l, .int .u64 y, .slice A n c, .int .u8 z] w fun e w' => e = .returned (.bool true) ∧ Below w.heap.size w w' := by
  rw [val_of hx.1 hx.2, val_of hy.1 hy.2]
  rcases Nat.lt_or_ge 40 n with h | h
  · exact signs_big _ l _ A n c z w h
  · exact signs_small _ l _ A n c ws z w hw h hz.1 hz.2
end Go.Proofs.Ytklkddncholoiaa
