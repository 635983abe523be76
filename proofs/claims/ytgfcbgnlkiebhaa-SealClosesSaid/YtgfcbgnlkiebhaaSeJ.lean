/- Layer 6: the law SealOnly. -/
import Derived.Test.YtgfcbgnlkiebhaaSeI
namespace Go.Proofs.Ytgfcbgnlkiebhaa
open Go.RowKit
set_option maxRecDepth 100000

theorem open_ok {x : BitVec 64} {bs zs : List Int} (h : openE x bs zs = 0) (hz : ∀ z ∈ zs, 0 ≤ z ∧ z ≤ 255) (hb : bs.length ≤ 1024) : 16 ≤ zs.length ∧ openT x bs zs = openL x zs ∧ sealL x (nonW zs) bs (openL x zs) = zs ∧ sealE bs (openL x zs) = 0 := by
  have hT : openT x bs zs = openL x zs := by unfold openT; rw [if_pos h]
  unfold openE at h
  by_cases h1 : zs.length < 16
  · rw [if_pos h1] at h
    omega
  · rw [if_neg h1] at h
    by_cases h2 : 1040 < zs.length ∨ 1024 < bs.length
    · rw [if_pos h2] at h
      omega
    · rw [if_neg h2] at h
      by_cases h3 : tagL zs = tagW x (nonW zs) bs (hidL zs)
      · have hl : (openL x zs).length ≤ 1024 := by unfold openL; rw [mixL_len]; omega
        have hs := seal_small (x := x) (y := nonW zs) hl hb
        exact ⟨by omega, hT, by rw [hs.1]; exact box_only hz (by omega) h3, hs.2⟩
      · rw [if_neg h3] at h
        omega
set_option maxHeartbeats 1000000 in
theorem only_long0 (x y : BitVec 64) (q : Int) (A B : Option Addr) (n c m d : Nat) (w : World)  (hn : 300 < n) :
    Calls Try.prog 7 #[.int .u64 (val x), .slice A n c, .slice B m d, .int .i64 q, .int .u64 (val y)] w fun e w' => e = .returned (.bool true) ∧ Below w.heap.size w w' := by
  have HB0 := Lib.hid ((Below.refl w.heap.size w).alloc (Nat.le_refl _) (.cells #[.slice A n c, .slice B m d] 23))
  go_enter Try.func7, Try.ntmps7
  go_wp2_with fail
  refine (short2_no0 A B n c m d w hn).mono ?_
  rintro e w' ⟨rfl, rfl⟩
  go_wp2_with fail
  refine (awake6_any _).mono ?_
  rintro e w1 ⟨rfl, hb⟩
  have HB1 := Lib.hid (HB0.out.trans (hb.mono HB0.out.size))
  clear hb
  go_wp2
  go_ret
  exact ⟨rfl, HB1.out⟩
set_option maxHeartbeats 1000000 in
theorem only_long1 (x y : BitVec 64) (q : Int) (A B : Option Addr) (n c m d : Nat) (w : World) (hn : n ≤ 300) (hm : 300 < m) :
    Calls Try.prog 7 #[.int .u64 (val x), .slice A n c, .slice B m d, .int .i64 q, .int .u64 (val y)] w fun e w' => e = .returned (.bool true) ∧ Below w.heap.size w w' := by
  have HB0 := Lib.hid ((Below.refl w.heap.size w).alloc (Nat.le_refl _) (.cells #[.slice A n c, .slice B m d] 23))
  go_enter Try.func7, Try.ntmps7
  go_wp2_with fail
  refine (short2_no1 A B n c m d w hn hm).mono ?_
  rintro e w' ⟨rfl, rfl⟩
  go_wp2_with fail
  refine (awake6_any _).mono ?_
  rintro e w1 ⟨rfl, hb⟩
  have HB1 := Lib.hid (HB0.out.trans (hb.mono HB0.out.size))
  clear hb
  go_wp2
  go_ret
  exact ⟨rfl, HB1.out⟩
set_option maxHeartbeats 4000000 in
theorem only_small (x y : BitVec 64) (q : Int) (A B : Option Addr) (n c m d : Nat) (bs ts : List Int) (w : World) (hA : Bytes w A n bs) (hB : Bytes w B m ts) (hc : n ≤ c) (hcm : c ≤ 9223372036854775807) (hd : m ≤ d) (hdm : d ≤ 9223372036854775807) (hn : n ≤ 300) (hm : m ≤ 300) :
    Calls Try.prog 7 #[.int .u64 (val x), .slice A n c, .slice B m d, .int .i64 q, .int .u64 (val y)] w fun e w' => e = .returned (.bool true) ∧ Below w.heap.size w w' := by
  have HB0 := Lib.hid ((Below.refl w.heap.size w).alloc (Nat.le_refl _) (.cells #[.slice A n c, .slice B m d] 23))
  have HA := Lib.hid hA
  have HB := Lib.hid hB
  have hl1 := hA.len
  have hl2 := hB.len
  have hbox := box_len x y bs ts
  rw [hl2] at hbox
  have c1 := fun w' (h : Below w.heap.size w w') => sealR_all x y A B n c m d bs ts w' (hA.below h) (hB.below h)
  rw [(seal_small (x := x) (y := y) (bs := bs) (ts := ts) (by omega) (by omega)).1, (seal_small (x := x) (y := y) (bs := bs) (ts := ts) (by omega) (by omega)).2] at c1
  generalize boxB x y bs ts = Z at *
  have C1 := Lib.hid c1
  have HL := Lib.hid hbox
  clear c1 hA hB hl1 hl2 hbox
  go_enter Try.func7, Try.ntmps7
  go_wp2_with fail
  refine (short2_yes A B n c m d w hn hm).mono ?_
  rintro e w' ⟨rfl, rfl⟩
  go_wp2_with fail
  refine (C1.out _ HB0.out).mono ?_
  rintro e w1 ⟨A1, n1, k1, rfl, hy, hk1, hm1, hb⟩
  have HY1 := Lib.hid hy
  have HG1 := Lib.hid hb
  have HB1 := Lib.hid (HB0.out.trans (hb.mono HB0.out.size))
  clear hy hb
  obtain rfl : n1 = m + 16 := by rw [← HY1.out.len]; exact HL.out
  go_wp2_with fail
  go_loopw [13] (fun iv wr => Hid (Below w1.heap.size w1 wr) ∧ (iv = .int .i64 0 ∨ iv = .int .i64 1 ∨ iv = .int .i64 2)) (fun iv _ => (2 - intOf iv).toNat)
  case atStart => exact ⟨Lib.hid (Below.refl _ _), .inl rfl⟩
  case round =>
    obtain ⟨HR, h | h | h⟩ := hrel
    · subst h
      have hb0 := (Below.refl wr.heap.size wr).alloc (Nat.le_refl _) (.cells #[.slice B m d, .slice A1 (m + 16) k1] 23)
      have HR0 := Lib.hid (HR.out.trans (hb0.mono HR.out.size))
      clear hb0
      have HAr := Lib.hid (HA.out.below (HB1.out.trans (HR0.out.mono HB1.out.size)))
      have HXr := Lib.hid (HB.out.below (HB1.out.trans (HR0.out.mono HB1.out.size)))
      have c1 := openE_all x A B n c (m) d bs ts _ HAr.out HXr.out hc hcm hd hdm
      by_cases hE : openE x bs ts = 0
      · obtain ⟨h16, hT, hS, hS0⟩ := open_ok (x := x) (bs := bs) (zs := ts) hE HXr.out.rng (by rw [HAr.out.len]; omega)
        rw [HXr.out.len] at h16
        obtain ⟨a, rfl, _⟩ := HXr.out.at_ 0 (by omega)
        rw [hE, hT] at c1
        have c2 := fun w' A2 n2 k2 (h : Bytes w' A n bs) (hy : Bytes w' A2 n2 (openL x ts)) hk hm => sealE_all x (nonW ts) A A2 n c n2 k2 bs (openL x ts) w' h hy hc hcm hk hm
        rw [hS, hS0] at c2
        have HN : Hid (rdG (ts.take 8) 8 = nonW ts) := Lib.hid rfl
        have C1 := Lib.hid c1
        have C2 := Lib.hid c2
        clear c1 c2 hT hS hS0 hE
        generalize nonW ts = nn at *
        generalize openL x ts = tl at *
        have g1 : ¬ (m : Int) < 16 := by omega
        have g2 : (8 : Int) ≤ (d : Int) := by omega
        have g3 : 8 ≤ m := by omega
        clear h16
        go_wp2_with fail
        refine C1.out.mono ?_
        rintro e w2 ⟨A2, n2, k2, rfl, hy, hk2, hm2, hb⟩
        have HY2 := Lib.hid hy
        have HR2 := Lib.hid (HR0.out.trans (hb.mono HR0.out.size))
        have HX2 := Lib.hid (HXr.out.below hb)
        have HA2 := Lib.hid (HAr.out.below hb)
        clear hy hb
        go_wp2_with fail
        refine (wordG_any _ 8 _ _ _ (HX2.out.take 8 g3) rfl).mono ?_
        rintro e w3 ⟨rfl, rfl⟩
        rw [HN.out]
        go_wp2_with fail
        refine (C2.out _ _ _ _ HA2.out HY2.out hk2 hm2).mono ?_
        rintro e w4 ⟨A4, n4, k4, rfl, hy, hk4, hm4, hb⟩
        have HR4 := Lib.hid (HR2.out.trans (hb.mono HR2.out.size))
        have hcv1 := conv_bytes (cap := k4) hy
        have hcv2 := conv_bytes (cap := d) (HX2.out.below hb)
        clear hy hb
        generalize strOfNums ts = sl at *
        go_wp2
        go_roundw
        case rel => exact ⟨HR4, .inr (.inl rfl)⟩
        case measure => (simp [intOf])
      · generalize openE x bs ts = E at *
        generalize openT x bs ts = tl at *
        have C1 := Lib.hid c1
        clear c1
        go_wp2_with fail
        refine C1.out.mono ?_
        rintro e w2 ⟨A2, n2, k2, rfl, _, _, _, hb⟩
        have HR2 := Lib.hid (HR0.out.trans (hb.mono HR0.out.size))
        clear hb
        go_wp2
        go_roundw
        case rel => exact ⟨HR2, .inr (.inl rfl)⟩
        case measure => (simp [intOf])
    · subst h
      have hb0 := (Below.refl wr.heap.size wr).alloc (Nat.le_refl _) (.cells #[.slice B m d, .slice A1 (m + 16) k1] 23)
      have HR0 := Lib.hid (HR.out.trans (hb0.mono HR.out.size))
      clear hb0
      have HAr := Lib.hid (HA.out.below (HB1.out.trans (HR0.out.mono HB1.out.size)))
      have HXr := Lib.hid (HY1.out.below HR0.out)
      have c1 := openE_all x A A1 n c (m + 16) k1 bs Z _ HAr.out HXr.out hc hcm hk1 hm1
      by_cases hE : openE x bs Z = 0
      · obtain ⟨h16, hT, hS, hS0⟩ := open_ok (x := x) (bs := bs) (zs := Z) hE HXr.out.rng (by rw [HAr.out.len]; omega)
        rw [HXr.out.len] at h16
        obtain ⟨a, rfl, _⟩ := HXr.out.at_ 0 (by omega)
        rw [hE, hT] at c1
        have c2 := fun w' A2 n2 k2 (h : Bytes w' A n bs) (hy : Bytes w' A2 n2 (openL x Z)) hk hm => sealE_all x (nonW Z) A A2 n c n2 k2 bs (openL x Z) w' h hy hc hcm hk hm
        rw [hS, hS0] at c2
        have HN : Hid (rdG (Z.take 8) 8 = nonW Z) := Lib.hid rfl
        have C1 := Lib.hid c1
        have C2 := Lib.hid c2
        clear c1 c2 hT hS hS0 hE
        generalize nonW Z = nn at *
        generalize openL x Z = tl at *
        have g1 : ¬ (m : Int) + 16 < 16 := by omega
        have g2 : (8 : Int) ≤ (k1 : Int) := by omega
        have g3 : 8 ≤ m + 16 := by omega
        clear h16
        go_wp2_with fail
        refine C1.out.mono ?_
        rintro e w2 ⟨A2, n2, k2, rfl, hy, hk2, hm2, hb⟩
        have HY2 := Lib.hid hy
        have HR2 := Lib.hid (HR0.out.trans (hb.mono HR0.out.size))
        have HX2 := Lib.hid (HXr.out.below hb)
        have HA2 := Lib.hid (HAr.out.below hb)
        clear hy hb
        go_wp2_with fail
        refine (wordG_any _ 8 _ _ _ (HX2.out.take 8 g3) rfl).mono ?_
        rintro e w3 ⟨rfl, rfl⟩
        rw [HN.out]
        go_wp2_with fail
        refine (C2.out _ _ _ _ HA2.out HY2.out hk2 hm2).mono ?_
        rintro e w4 ⟨A4, n4, k4, rfl, hy, hk4, hm4, hb⟩
        have HR4 := Lib.hid (HR2.out.trans (hb.mono HR2.out.size))
        have hcv1 := conv_bytes (cap := k4) hy
        have hcv2 := conv_bytes (cap := k1) (HX2.out.below hb)
        clear hy hb
        generalize strOfNums Z = sl at *
        go_wp2
        go_roundw
        case rel => exact ⟨HR4, .inr (.inr rfl)⟩
        case measure => (simp [intOf])
      · generalize openE x bs Z = E at *
        generalize openT x bs Z = tl at *
        have C1 := Lib.hid c1
        clear c1
        go_wp2_with fail
        refine C1.out.mono ?_
        rintro e w2 ⟨A2, n2, k2, rfl, _, _, _, hb⟩
        have HR2 := Lib.hid (HR0.out.trans (hb.mono HR0.out.size))
        clear hb
        go_wp2
        go_roundw
        case rel => exact ⟨HR2, .inr (.inr rfl)⟩
        case measure => (simp [intOf])
    · subst h
      go_wp2_with fail
      refine (awake6_any _).mono ?_
      rintro e w2 ⟨rfl, hb⟩
      have HR2 := Lib.hid (HR.out.trans (hb.mono HR.out.size))
      have HB2 := Lib.hid (HB1.out.trans (HR2.out.mono HB1.out.size))
      clear hb
      go_wp2
      go_ret
      exact ⟨rfl, HB2.out⟩
theorem only_law (x y : BitVec 64) (q : Int) (A B : Option Addr) (n c m d : Nat) (bs ts : List Int) (w : World) (hA : Bytes w A n bs) (hB : Bytes w B m ts) (hc : n ≤ c) (hcm : c ≤ 9223372036854775807) (hd : m ≤ d) (hdm : d ≤ 9223372036854775807) :
    Calls Try.prog 7 #[.int .u64 (val x), .slice A n c, .slice B m d, .int .i64 q, .int .u64 (val y)] w fun e w' => e = .returned (.bool true) ∧ Below w.heap.size w w' := by
  by_cases hn : n ≤ 300
  · by_cases hm : m ≤ 300
    · exact only_small x y q A B n c m d bs ts w hA hB hc hcm hd hdm hn hm
    · exact only_long1 x y q A B n c m d w hn (by omega)
  · exact only_long0 x y q A B n c m d w (by omega)
end Go.Proofs.Ytgfcbgnlkiebhaa
