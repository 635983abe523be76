/- Layer 7: the law FlashParts. -/
import Derived.Test.YtgoajnljgbcmdaaFlI
import Derived.Deep.RegionWith
import Derived.Deep.Cut
namespace Go.Proofs.Ytgoajnljgbcmdaa
open Go.RowKit
set_option maxRecDepth 100000

theorem areE_in {p n a m : Nat} (h1 : 512 ≤ p) (h2 : p ≤ 8192) (hk : n % p = 0) (hn : 0 < n) (h8 : n / p ≤ 8) (h : a + m ≤ p) : areE (p : Int) n 0 (a : Int) (m : Int) = 0 := by
  have hv : valE (p : Int) n = 0 := by
    unfold valE
    rw [if_neg (by omega), Int.toNat_natCast]
    exact if_neg (by omega)
  obtain ⟨t, ht⟩ : ∃ t, n / p = t := ⟨_, rfl⟩
  have h9 : 1 ≤ t := by
    have h10 := Nat.div_add_mod n p
    rw [hk, ht, Nat.add_zero] at h10
    exact Nat.pos_of_ne_zero fun e => by
      rw [e, Nat.mul_zero] at h10
      omega
  unfold areE
  rw [hv, if_neg (by omega), Int.toNat_natCast, ht]
  exact if_neg (by omega)
theorem iwrap_nat (m : Nat) (h : m ≤ 1000000000000) : IntKind.i64.wrap (m : Int) = (m : Int) := by rw [IntKind.wrap_i64]; omega
theorem parts_join (Z bs : List Int) (a k j : Nat) : chgL (chgL Z a (prgG bs) k) (a + k) (prgG (bs.drop k)) j = chgL Z a (prgG bs) (k + j) := by
  rw [chgL_add]
  congr 1
  funext i z
  unfold prgG
  simp [List.getD, List.getElem?_drop]
set_option maxHeartbeats 1000000 in
theorem parts_long (x : Int) (A B : Option Addr) (n c m d a bu : Nat) (w : World) (h : 200 < m) :
    Calls Try.prog 7 #[.int .i64 x, .slice A n c, .int .u8 (a : Int), .slice B m d, .int .u8 (bu : Int)] w fun e w' => e = .returned (.bool true) ∧ Below w.heap.size w w' := by
  have h1 : (200 : Int) < (m : Int) := by omega
  clear h
  go_enter Try.func7, Try.ntmps7
  go_wp2_with fail
  refine (awake7_any _).mono ?_
  rintro e w1 ⟨rfl, hb⟩
  have HB1 := Lib.hid hb
  clear hb
  go_wp2
  go_ret
  exact ⟨rfl, HB1.out⟩
set_option maxHeartbeats 8000000 in
theorem parts_v1 (x : Int) (A : Option Addr) (B : Addr) (n c m d a bu : Nat) (zs bs : List Int) (w : World) (hA : Nums w A n zs) (hB : Bytes w (some B) m bs) (hd : m ≤ d) (hdm : d ≤ 9223372036854775807) (ha : a ≤ 255) (hbu : bu ≤ 255) (h200 : m ≤ 200) (hcut : bu < m) :
    Calls Try.prog 7 #[.int .i64 x, .slice A n c, .int .u8 (a : Int), .slice (some B) m d, .int .u8 (bu : Int)] w fun e w' => e = .returned (.bool true) ∧ Below w.heap.size w w' := by
  have h1 : ¬ (200 : Int) < (m : Int) := by omega
  have hmin : min (bu : Int) (m : Int) = (bu : Int) := by omega
  have hLow : Bytes w (some (B.add bu)) (m - bu) (bs.drop bu) := (by have h := hB.drop (cap := d) bu (by omega) hd; rw [if_neg (by omega)] at h; exact h)
  obtain ⟨ak, hak⟩ : ∃ ak, a + bu = ak := ⟨_, rfl⟩
  have hakI : (a : Int) + (bu : Int) = (ak : Int) := by omega
  have hdn : doneN (bu : Int) m = bu := by unfold doneN; rw [if_neg (by omega)]; omega
  have hlf : leftB (bu : Int) m = 0 := by unfold leftB; rw [if_neg (by omega)]; rw [if_neg (by omega)]
  have hpw : powE6 (bu : Int) m = 16 := by unfold powE6; rw [if_neg (by omega)]
  have hd1 : ∀ j, doneN (-1) j = j := fun j => by unfold doneN; rw [if_pos (by omega)]
  have hl1 : ∀ j, leftB (-1) j = -1 := fun j => by unfold leftB; rw [if_pos (by omega)]
  have hp1 : ∀ j, powE6 (-1) j = 0 := fun j => by unfold powE6; rw [if_pos (by omega)]
  have hfm : ∀ p : Nat, 512 ≤ p → a + m ≤ p ∧ ak + (m - bu) ≤ p := fun p h => by omega
  have hsum : bu + (m - bu) = m := by omega
  have e1 := fun (p n1 c1 : Nat) A1 Z w' (h : Bytes w' A1 n1 Z) (h' : Bytes w' (some B) m bs) hc1 hm1 => prgE_all (p : Int) A1 (some B) n1 c1 m d Z bs 0 (a : Int) (-1) w' h h' hc1 hm1 hd hdm (by decide)
  have e2 := fun (p n1 c1 : Nat) A1 Z w' (h : Bytes w' A1 n1 Z) (h' : Bytes w' (some B) m bs) hc1 hm1 => prgE_all (p : Int) A1 (some B) n1 c1 m d Z bs 0 (a : Int) (bu : Int) w' h h' hc1 hm1 hd hdm (by omega)
  have e3 := fun (p n1 c1 : Nat) A1 Z w' (h : Bytes w' A1 n1 Z) (h' : Bytes w' (some (B.add bu)) (m - bu) (bs.drop bu)) hc1 hm1 => prgE_all (p : Int) A1 (some (B.add bu)) n1 c1 (m - bu) (d - bu) Z (bs.drop bu) 0 (ak : Int) (-1) w' h h' hc1 hm1 (by omega) (by omega) (by decide)
  unfold GivesP at e1 e2 e3
  simp only [hd1, hl1, hp1, hdn, hlf, hpw] at e1 e2 e3
  have V1 := Lib.hid (wrap_nat a (by omega))
  have V2 := Lib.hid (iwrap_nat a (by omega))
  have V3 := Lib.hid (wrap_nat bu (by omega))
  have V4 := Lib.hid (iwrap_nat bu (by omega))
  have V5 := Lib.hid (wrap_nat ak (by omega))
  have V6 := Lib.hid (iwrap_nat ak (by omega))
  have HA := Lib.hid hA
  have HBB := Lib.hid hB
  have HLow := Lib.hid hLow
  have HFM := Lib.hid hfm
  have HAK := Lib.hid (And.intro hak hsum)
  have T1 := Lib.hid e1
  have T2 := Lib.hid e2
  have T3 := Lib.hid e3
  have s1 : ¬ d = bu := by omega
  have s2 : ¬ d - bu = 0 := by omega
  have s3 : (bu : Int) ≤ (m : Int) := by omega
  have s4 : (m : Int) ≤ (d : Int) := by omega
  have s5 : ¬ (bu : Int) = (m : Int) := by omega
  clear hA hB hLow hd hdm ha hbu h200 hdn hlf hpw hd1 hl1 hp1 hfm e1 e2 e3 hak hsum hcut
  have ww1 := V1.out
  have ww2 := V2.out
  have ww3 := V3.out
  have ww4 := V4.out
  have ww5 := V5.out
  have ww6 := V6.out
  go_enter Try.func7, Try.ntmps7
  go_wp2_with fail
  refine (made_any x A n c zs _ HA.out).mono ?_
  rintro e w1 ⟨p, k, c1, A1, Z, rfl, hp, hk1, hk4, hy, hc1, hm1, hb⟩
  clear ww1 ww2 ww3 ww4 ww5 ww6
  obtain ⟨n1, hn1⟩ : ∃ n1, p * k = n1 := ⟨_, rfl⟩
  have hq0 : 512 ≤ p := by omega
  have hq1 : p ≤ 8192 := by omega
  have hpk : n1 % p = 0 := by rw [← hn1]; exact Nat.mul_mod_right _ _
  have hpd : n1 / p ≤ 8 := by rw [← hn1, Nat.mul_div_cancel_left _ (by omega)]; omega
  have hpos : 0 < n1 := by rw [← hn1]; exact Nat.mul_pos (by omega) hk1
  rw [hn1] at hy hc1
  rw [hn1]
  have hE1 : areE (p : Int) n1 0 (a : Int) (m : Int) = 0 := areE_in hq0 hq1 hpk hpos hpd (HFM.out p hq0).1
  have hE2 : areE (p : Int) n1 0 (ak : Int) ((m - bu : Nat) : Int) = 0 := areE_in hq0 hq1 hpk hpos hpd (HFM.out p hq0).2
  have hf1 : fromE (p : Int) 0 (a : Int) = a := by unfold fromE; omega
  have hf2 : fromE (p : Int) 0 (ak : Int) = ak := by unfold fromE; omega
  have e1 := fun w' (h : Bytes w' A1 n1 Z) h' => T1.out p n1 c1 A1 Z w' h h' hc1 hm1
  have e2 := fun w' (h : Bytes w' A1 n1 Z) h' => T2.out p n1 c1 A1 Z w' h h' hc1 hm1
  have e3 := fun A4 c4 w' (h : Bytes w' A4 n1 (chgL Z a (prgG bs) bu)) h' hc4 hm4 => T3.out p n1 c4 A4 (chgL Z a (prgG bs) bu) w' h h' hc4 hm4
  have hj := parts_join Z bs a (bu) (m - bu)
  rw [HAK.out.1, HAK.out.2] at hj
  simp only [hE1, hE2, hf1, hf2, hj, ifE_ok] at e1 e2 e3
  have hl1 : (chgL Z a (prgG bs) m).length = n1 := by rw [chgL_len]; exact hy.len
  have hl2 : (chgL Z a (prgG bs) bu).length = n1 := by rw [chgL_len]; exact hy.len
  generalize chgL Z a (prgG bs) m = L1 at *
  generalize chgL Z a (prgG bs) bu = L2 at *
  have D1 := Lib.hid e1
  have D2 := Lib.hid e2
  have D3 := Lib.hid e3
  have HL := Lib.hid (And.intro hl1 hl2)
  have HBw := Lib.hid hb
  have HG0 := Lib.hid (Below.refl w.heap.size w)
  clear e1 e2 e3 hj hE1 hE2 hf1 hf2 hpk hpd hpos hn1 hp hk1 hk4 hc1 hm1 hq0 hq1 hl1 hl2
  have hbx := (Below.refl w1.heap.size w1).alloc (Nat.le_refl _) (.cells #[.int .i64 (p : Int), .slice A1 n1 c1] 24)
  have hbb := hb.trans (hbx.mono hb.size)
  have HY1 := Lib.hid (hy.below hbx)
  have HQ1 := Lib.hid hbb
  have HG1 := Lib.hid (HG0.out.trans (hbb.mono HG0.out.size))
  have HX1 := Lib.hid (Cs.new w1 24 [.int .i64 (p : Int), .slice A1 n1 c1])
  clear hb hbx hy hbb
  have ww1 := V1.out
  have ww2 := V2.out
  have ww3 := V3.out
  have ww4 := V4.out
  have ww5 := V5.out
  have ww6 := V6.out
  have HBB1 := Lib.hid (HBB.out.below HQ1.out)
  have u1 := HX1.out.cell 0
  have v1 := HX1.out.cell 1
  simp only [List.getElem?_cons_succ, List.getElem?_cons_zero] at u1 v1
  go_wp2_with fail
  refine (D1.out _ HY1.out HBB1.out).mono ?_
  rintro e w2 ⟨A2, n2, c2, rfl, hy, hk2, hm2, hb⟩
  obtain rfl : n2 = n1 := by rw [← hy.len]; exact HL.out.1
  have hbx := (Below.refl w2.heap.size w2).alloc (Nat.le_refl _) (.cells #[.int .i64 (p : Int), .slice A2 n2 c2] 24)
  have hbb := hb.trans (hbx.mono hb.size)
  have HY2 := Lib.hid (hy.below hbx)
  have HQ2 := Lib.hid hbb
  have HG2 := Lib.hid (HG1.out.trans (hbb.mono HG1.out.size))
  have HX2 := Lib.hid (Cs.new w2 24 [.int .i64 (p : Int), .slice A2 n2 c2])
  have hHX1 := (HX1.out.below hb HX1.out.lt).grow (.cells #[.int .i64 (p : Int), .slice A2 n2 c2] 24)
  clear hb hbx hy hbb
  clear HX1
  have HX1 := Lib.hid hHX1
  clear hHX1
  have HYf := Lib.hid (HY1.out.below HQ2.out)
  have HBB2 := Lib.hid (HBB1.out.below HQ2.out)
  clear u1 v1
  have u1 := HX1.out.cell 0
  have v1 := HX1.out.cell 1
  simp only [List.getElem?_cons_succ, List.getElem?_cons_zero] at u1 v1
  have u2 := HX2.out.cell 0
  have v2 := HX2.out.cell 1
  simp only [List.getElem?_cons_succ, List.getElem?_cons_zero] at u2 v2
  go_wp2_with fail
  refine (D2.out _ HYf.out HBB2.out).mono ?_
  rintro e w3 ⟨A3, n3, c3, rfl, hy, hk3, hm3, hb⟩
  obtain rfl : n3 = n2 := by rw [← hy.len]; exact HL.out.2
  have hbx := (Below.refl w3.heap.size w3).alloc (Nat.le_refl _) (.cells #[.int .i64 (p : Int), .slice A3 n3 c3] 24)
  have hbb := hb.trans (hbx.mono hb.size)
  have HY3 := Lib.hid (hy.below hbx)
  have HQ3 := Lib.hid hbb
  have HG3 := Lib.hid (HG2.out.trans (hbb.mono HG2.out.size))
  have HX3 := Lib.hid (Cs.new w3 24 [.int .i64 (p : Int), .slice A3 n3 c3])
  have hHX1 := (HX1.out.below hb HX1.out.lt).grow (.cells #[.int .i64 (p : Int), .slice A3 n3 c3] 24)
  have hHX2 := (HX2.out.below hb HX2.out.lt).grow (.cells #[.int .i64 (p : Int), .slice A3 n3 c3] 24)
  clear hb hbx hy hbb
  clear HX1
  have HX1 := Lib.hid hHX1
  clear hHX1
  clear HX2
  have HX2 := Lib.hid hHX2
  clear hHX2
  have HLow3 := Lib.hid (HLow.out.below HG3.out)
  clear u1 v1 u2 v2
  have u1 := HX1.out.cell 0
  have v1 := HX1.out.cell 1
  simp only [List.getElem?_cons_succ, List.getElem?_cons_zero] at u1 v1
  have u2 := HX2.out.cell 0
  have v2 := HX2.out.cell 1
  simp only [List.getElem?_cons_succ, List.getElem?_cons_zero] at u2 v2
  have u3 := HX3.out.cell 0
  have v3 := HX3.out.cell 1
  simp only [List.getElem?_cons_succ, List.getElem?_cons_zero] at u3 v3
  have HLd := Lib.hid (HLow3.out.below (Below.refl _ _).drew)
  have HYd := Lib.hid (HY3.out.below (Below.refl _ _).drew)
  have HX2d := Lib.hid HX2.out.drew
  have HYx := Lib.hid (((HY2.out.below HQ3.out)).below (Below.refl _ _).drew)
  have HGd := Lib.hid HG3.out.drew
  have HX3d := Lib.hid HX3.out.drew
  clear u1 v1 u2 v2 u3 v3
  go_wp2_with fail
  refine held_begin (by kernel_rfl) ?_
  refine held_take (i := 0) (v := ?_) rfl rfl (by kernel_rfl) (by kernel_rfl) (by kernel_rfl) (fun _ _ _ h => h) (by rfl) ?_ ?_
  rotate_left
  · intro W hW
    have z0 := (HX3d.out.below hW HX3d.out.lt).cell 0
    have y0 := (HX3d.out.below hW HX3d.out.lt).cell 1
    simp only [List.getElem?_cons_succ, List.getElem?_cons_zero] at z0 y0
    go_simp
    try with_reducible rfl
  simp only [Act.put, List.setIfInBounds_toArray, List.set_cons_zero, List.set_cons_succ]
  refine held_take (i := 1) (v := ?_) rfl rfl (by kernel_rfl) (by kernel_rfl) (by kernel_rfl) (fun _ _ _ h => h) (by rfl) ?_ ?_
  rotate_left
  · intro W hW
    go_simp
    try with_reducible rfl
  simp only [Act.put, List.setIfInBounds_toArray, List.set_cons_zero, List.set_cons_succ]
  refine held_take (i := 2) (v := ?_) rfl rfl (by kernel_rfl) (by kernel_rfl) (by kernel_rfl) (fun _ _ _ h => h) (by rfl) ?_ ?_
  rotate_left
  · intro W hW
    go_simp
    try with_reducible rfl
  simp only [Act.put, List.setIfInBounds_toArray, List.set_cons_zero, List.set_cons_succ]
  refine held_take (i := 3) (v := ?_) rfl rfl (by kernel_rfl) (by kernel_rfl) (by kernel_rfl) (fun _ _ _ h => h) (by rfl) ?_ ?_
  rotate_left
  · intro W hW
    go_simp
    try with_reducible rfl
  simp only [Act.put, List.setIfInBounds_toArray, List.set_cons_zero, List.set_cons_succ]
  refine held_take (i := 4) (v := ?_) rfl rfl (by kernel_rfl) (by kernel_rfl) (by kernel_rfl) (fun _ _ _ h => h) (by rfl) ?_ ?_
  rotate_left
  · intro W hW
    go_simp
    try with_reducible rfl
  simp only [Act.put, List.setIfInBounds_toArray, List.set_cons_zero, List.set_cons_succ]
  refine held_take (i := 5) (v := ?_) rfl rfl (by kernel_rfl) (by kernel_rfl) (by kernel_rfl) (fun _ _ _ h => h) (by rfl) ?_ ?_
  rotate_left
  · intro W hW
    go_simp
    try with_reducible rfl
  simp only [Act.put, List.setIfInBounds_toArray, List.set_cons_zero, List.set_cons_succ]
  refine held_take (i := 6) (v := ?_) rfl rfl (by kernel_rfl) (by kernel_rfl) (by kernel_rfl) (fun _ _ _ h => h) (by rfl) ?_ ?_
  rotate_left
  · intro W hW
    go_simp
    try with_reducible rfl
  simp only [Act.put, List.setIfInBounds_toArray, List.set_cons_zero, List.set_cons_succ]
  refine held_take (i := 7) (v := ?_) rfl rfl (by kernel_rfl) (by kernel_rfl) (by kernel_rfl) (fun _ _ _ h => h) (by rfl) ?_ ?_
  rotate_left
  · intro W hW
    go_simp
    try with_reducible rfl
  simp only [Act.put, List.setIfInBounds_toArray, List.set_cons_zero, List.set_cons_succ]
  refine hs_two (i := 8) (j := 13) (by kernel_rfl) rfl rfl ?_ ?_
  · intro K' hK
    go_simp
    refine (D3.out _ _ _ HYd.out HLd.out hk3 hm3).mono ?_
    rintro e w4 ⟨A4, n4, c4, rfl, hy4, _, _, hb⟩
    have hl4 := hy4.len
    obtain rfl : n4 = n3 := by rw [← hl4]; exact HL.out.1
    have HY4 := Lib.hid hy4
    have HX2e := Lib.hid (HX2d.out.below hb HX2d.out.lt)
    have HYxe := Lib.hid (HYx.out.below hb)
    have HGe := Lib.hid (HGd.out.trans (hb.mono HGd.out.size))
    refine hK.out _ _ hb ?_
    clear hK K'
    refine held_from (fun W h => hb.trans (h.mono hb.size)) ?_
    clear hb hy4 hl4
    refine held_take (i := 9) (v := ?_) rfl rfl (by kernel_rfl) (by kernel_rfl) (by kernel_rfl) (fun _ _ _ h => h) (by rfl) ?_ ?_
    rotate_left
    · intro W hW
      go_simp
      try with_reducible rfl
    simp only [Act.put, List.setIfInBounds_toArray, List.set_cons_zero, List.set_cons_succ]
    refine held_take (i := 10) (v := ?_) rfl rfl (by kernel_rfl) (by kernel_rfl) (by kernel_rfl) (fun _ _ _ h => h) (by rfl) ?_ ?_
    rotate_left
    · intro W hW
      go_simp
      try with_reducible rfl
    simp only [Act.put, List.setIfInBounds_toArray, List.set_cons_zero, List.set_cons_succ]
    refine held_take (i := 11) (v := ?_) rfl rfl (by kernel_rfl) (by kernel_rfl) (by kernel_rfl) (fun _ _ _ h => h) (by rfl) ?_ ?_
    rotate_left
    · intro W hW
      go_simp
      try with_reducible rfl
    simp only [Act.put, List.setIfInBounds_toArray, List.set_cons_zero, List.set_cons_succ]
    refine held_take (i := 12) (v := ?_) rfl rfl (by kernel_rfl) (by kernel_rfl) (by kernel_rfl) (fun _ _ _ h => h) (by rfl) ?_ ?_
    rotate_left
    · intro W hW
      go_simp
      try with_reducible rfl
    simp only [Act.put, List.setIfInBounds_toArray, List.set_cons_zero, List.set_cons_succ]
    have hS := (Below.refl w4.heap.size w4).alloc (Nat.le_refl _) (.cells #[.int .i64 0, .slice none 0 0] 24)
    refine hs_call (i := 13) (by kernel_rfl) rfl (fun K' hK => ?_)
    go_simp
    refine hK.out _ _ hS ?_
    clear hK K'
    have hq := Cs.new w4 24 [.int .i64 0, .slice none 0 0]
    have q0 := hq.cell 0
    have q1 := hq.cell 1
    have f0 := hq.free 0
    have f1 := hq.free 1
    simp only [List.getElem?_cons_succ, List.getElem?_cons_zero] at q0 q1
    refine hs_call (i := 14) (by kernel_rfl) rfl (fun K' hK => ?_)
    go_simp
    have hS4 := (Below.refl w4.heap.size w4).alloc (Nat.le_refl _) (.cells #[.int .i64 (p : Int), .slice A4 n4 c4] 24)
    refine hK.out _ _ hS4 ?_
    clear hK K' q0 q1 f0 f1 hS hq
    refine hs_take (i := 15) (v := ?_) rfl rfl (by kernel_rfl) (by kernel_rfl) (by kernel_rfl) (fun _ _ _ h => h) (by rfl) hS4 ?_ ?_
    rotate_left
    · intro W' hW'
      go_simp
      try with_reducible rfl
    simp only [Act.put, List.setIfInBounds_toArray, List.set_cons_zero, List.set_cons_succ]
    refine hs_take (i := 16) (v := ?_) rfl rfl (by kernel_rfl) (by kernel_rfl) (by kernel_rfl) (fun _ _ _ h => h) (by rfl) hS4 ?_ ?_
    rotate_left
    · intro W' hW'
      go_simp
      try with_reducible rfl
    simp only [Act.put, List.setIfInBounds_toArray, List.set_cons_zero, List.set_cons_succ]
    refine wpAnyH_done (by kernel_rfl) ?_ _
    have HX2f := HX2e.out.grow (.cells #[.int .i64 (p : Int), .slice A4 n4 c4] 24)
    have HX4f := Cs.new w4 24 [.int .i64 (p : Int), .slice A4 n4 c4]
    have u2 := HX2f.cell 0
    have v2 := HX2f.cell 1
    have u4 := HX4f.cell 0
    have v4 := HX4f.cell 1
    simp only [List.getElem?_cons_succ, List.getElem?_cons_zero] at u2 v2 u4 v4
    have HYa := Lib.hid (HYxe.out.below hS4)
    have HYb := Lib.hid (HY4.out.below hS4)
    have HGf := Lib.hid (HGe.out.trans (hS4.mono HGe.out.size))
    clear hS4 HX2f HX4f
    go_wp2_with fail
    refine (same_any (p : Int) A2 A4 n4 c2 n4 c4 L1 _ HYa.out HYb.out).mono ?_
    rintro e w5 ⟨rfl, hb⟩
    have HGg := Lib.hid (HGf.out.trans (hb.mono HGf.out.size))
    clear hb
    go_wp2_with fail
    refine (awake7_any _).mono ?_
    rintro e w6 ⟨rfl, hb⟩
    have HGh := Lib.hid (HGg.out.trans (hb.mono HGg.out.size))
    clear hb
    go_wp2
    go_ret
    exact ⟨rfl, HGh.out⟩
  · intro K' hK
    go_simp
    have hS : Below (w3.alloc (.cells #[.int .i64 (p : Int), .slice A3 n3 c3] 24)).drew.heap.size (w3.alloc (.cells #[.int .i64 (p : Int), .slice A3 n3 c3] 24)).drew ((w3.alloc (.cells #[.int .i64 (p : Int), .slice A3 n3 c3] 24)).alloc (.cells #[.int .i64 0, .slice none 0 0] 24)).drew := (Below.refl _ (w3.alloc (.cells #[.int .i64 (p : Int), .slice A3 n3 c3] 24)).drew).alloc (Nat.le_refl _) (.cells #[.int .i64 0, .slice none 0 0] 24)
    have HYz := Lib.hid (HYd.out.below hS)
    have HLz := Lib.hid (HLd.out.below hS)
    have HYxz := Lib.hid (HYx.out.below hS)
    have HX2z := Lib.hid (HX2d.out.below hS HX2d.out.lt)
    have HZz := Lib.hid ((Cs.new2 w3 (.cells #[.int .i64 (p : Int), .slice A3 n3 c3] 24) 24 [.int .i64 0, .slice none 0 0]).drew)
    have HGz := Lib.hid (HGd.out.trans (hS.mono HGd.out.size))
    have HSz := Lib.hid hS
    have hbw : w.heap.size ≤ w3.heap.size + 1 := by have h9 := HGd.out.size; simpa using h9
    have hne : w2.heap.size ≠ w3.heap.size + 1 := by have h9 := HX2d.out.lt; simp at h9; omega
    have HNE := Lib.hid (And.intro hbw hne)
    refine hK.out _ _ hS ?_
    clear hK K' hS hbw hne
    refine hs_call (i := 8) (by kernel_rfl) rfl (fun K' hK => ?_)
    go_simp
    refine (D3.out _ _ _ HYz.out HLz.out hk3 hm3).mono ?_
    rintro e w4 ⟨A4, n4, c4, rfl, hy4, _, _, hb⟩
    have hl4 := hy4.len
    obtain rfl : n4 = n3 := by rw [← hl4]; exact HL.out.1
    have HY4 := Lib.hid hy4
    have HX2e := Lib.hid (HX2z.out.below hb HX2z.out.lt)
    have HYxe := Lib.hid (HYxz.out.below hb)
    have HZ4 := Lib.hid (HZz.out.below hb HZz.out.lt)
    have HGe := Lib.hid (HGz.out.trans (hb.mono HGz.out.size))
    have HS4 := Lib.hid (HSz.out.trans (hb.mono HSz.out.size))
    refine hK.out _ _ HS4.out ?_
    clear hK K' hb hy4 hl4
    refine hs_take (i := 9) (v := ?_) rfl rfl (by kernel_rfl) (by kernel_rfl) (by kernel_rfl) (fun _ _ _ h => h) (by rfl) HS4.out ?_ ?_
    rotate_left
    · intro W' hW'
      go_simp
      try with_reducible rfl
    simp only [Act.put, List.setIfInBounds_toArray, List.set_cons_zero, List.set_cons_succ]
    refine hs_take (i := 10) (v := ?_) rfl rfl (by kernel_rfl) (by kernel_rfl) (by kernel_rfl) (fun _ _ _ h => h) (by rfl) HS4.out ?_ ?_
    rotate_left
    · intro W' hW'
      go_simp
      try with_reducible rfl
    simp only [Act.put, List.setIfInBounds_toArray, List.set_cons_zero, List.set_cons_succ]
    refine hs_take (i := 11) (v := ?_) rfl rfl (by kernel_rfl) (by kernel_rfl) (by kernel_rfl) (fun _ _ _ h => h) (by rfl) HS4.out ?_ ?_
    rotate_left
    · intro W' hW'
      go_simp
      try with_reducible rfl
    simp only [Act.put, List.setIfInBounds_toArray, List.set_cons_zero, List.set_cons_succ]
    refine hs_take (i := 12) (v := ?_) rfl rfl (by kernel_rfl) (by kernel_rfl) (by kernel_rfl) (fun _ _ _ h => h) (by rfl) HS4.out ?_ ?_
    rotate_left
    · intro W' hW'
      go_simp
      try with_reducible rfl
    simp only [Act.put, List.setIfInBounds_toArray, List.set_cons_zero, List.set_cons_succ]
    have q0 := HZ4.out.cell 0
    have q1 := HZ4.out.cell 1
    have f0 := HZ4.out.free 0
    have f1 := HZ4.out.free 1
    simp only [List.getElem?_cons_succ, List.getElem?_cons_zero] at q0 q1
    have hS5 := (HS4.out.setCell (p := ⟨w3.heap.size + 1, 0, none⟩) (by simp) (.int .i64 (p : Int))).setCell (p := ⟨w3.heap.size + 1, 1, none⟩) (by simp) (.slice A4 n4 c4)
    have HYb := Lib.hid (HY4.out.setTwo (.int .i64 (p : Int)) (.slice A4 n4 c4) _ _ q0 q1 (fun z e => by cases e) (fun z e => by cases e))
    have HYa := Lib.hid (HYxe.out.setTwo (.int .i64 (p : Int)) (.slice A4 n4 c4) _ _ q0 q1 (fun z e => by cases e) (fun z e => by cases e))
    refine hs_call (i := 14) (by kernel_rfl) rfl (fun K' hK => ?_)
    go_simp
    refine hK.out _ _ hS5 ?_
    clear hK K' q0 q1 f0 f1
    refine hs_take (i := 15) (v := ?_) rfl rfl (by kernel_rfl) (by kernel_rfl) (by kernel_rfl) (fun _ _ _ h => h) (by rfl) hS5 ?_ ?_
    rotate_left
    · intro W' hW'
      go_simp
      try with_reducible rfl
    simp only [Act.put, List.setIfInBounds_toArray, List.set_cons_zero, List.set_cons_succ]
    refine hs_take (i := 16) (v := ?_) rfl rfl (by kernel_rfl) (by kernel_rfl) (by kernel_rfl) (fun _ _ _ h => h) (by rfl) hS5 ?_ ?_
    rotate_left
    · intro W' hW'
      go_simp
      try with_reducible rfl
    simp only [Act.put, List.setIfInBounds_toArray, List.set_cons_zero, List.set_cons_succ]
    refine wpAnyH_done (by kernel_rfl) ?_ _
    have HX2f := (HX2e.out.far_set 0 (.int .i64 (p : Int)) HNE.out.2).far_set 1 (.slice A4 n4 c4) HNE.out.2
    have HX4f := (HZ4.out.set_ 0 (.int .i64 (p : Int))).set_ 1 (.slice A4 n4 c4)
    have u2 := HX2f.cell 0
    have v2 := HX2f.cell 1
    have u4 := HX4f.cell 0
    have v4 := HX4f.cell 1
    simp only [List.set_cons_zero, List.set_cons_succ, List.getElem?_cons_succ, List.getElem?_cons_zero] at u2 v2 u4 v4
    have HGf := Lib.hid ((HGe.out.setCell (p := ⟨w3.heap.size + 1, 0, none⟩) HNE.out.1 (.int .i64 (p : Int))).setCell (p := ⟨w3.heap.size + 1, 1, none⟩) HNE.out.1 (.slice A4 n4 c4))
    clear hS5 HX2f HX4f
    go_wp2_with fail
    refine (same_any (p : Int) A2 A4 n4 c2 n4 c4 L1 _ HYa.out HYb.out).mono ?_
    rintro e w5 ⟨rfl, hb⟩
    have HGg := Lib.hid (HGf.out.trans (hb.mono HGf.out.size))
    clear hb
    go_wp2_with fail
    refine (awake7_any _).mono ?_
    rintro e w6 ⟨rfl, hb⟩
    have HGh := Lib.hid (HGg.out.trans (hb.mono HGg.out.size))
    clear hb
    go_wp2
    go_ret
    exact ⟨rfl, HGh.out⟩
set_option maxHeartbeats 8000000 in
theorem parts_v2 (x : Int) (A : Option Addr) (B : Addr) (n c m d a bu : Nat) (zs bs : List Int) (w : World) (hA : Nums w A n zs) (hB : Bytes w (some B) m bs) (hd : m ≤ d) (hdm : d ≤ 9223372036854775807) (ha : a ≤ 255) (hbu : bu ≤ 255) (h200 : m ≤ 200) (hcut : m < bu) (hmd : m < d) :
    Calls Try.prog 7 #[.int .i64 x, .slice A n c, .int .u8 (a : Int), .slice (some B) m d, .int .u8 (bu : Int)] w fun e w' => e = .returned (.bool true) ∧ Below w.heap.size w w' := by
  have h1 : ¬ (200 : Int) < (m : Int) := by omega
  have hmin : min (bu : Int) (m : Int) = (m : Int) := by omega
  have hLow : Bytes w (some (B.add m)) (0) (bs.drop m) := (by have h := hB.drop (cap := d) m (Nat.le_refl _) hd; rw [if_neg (by omega), Nat.sub_self] at h; exact h)
  obtain ⟨ak, hak⟩ : ∃ ak, a + m = ak := ⟨_, rfl⟩
  have hakI : (a : Int) + (m : Int) = (ak : Int) := by omega
  have hdn : doneN (m : Int) m = m := by unfold doneN; rw [if_pos (by omega)]
  have hlf : leftB (m : Int) m = 0 := by unfold leftB; rw [if_neg (by omega)]; rw [if_pos (by omega)]; omega
  have hpw : powE6 (m : Int) m = 0 := by unfold powE6; rw [if_pos (by omega)]
  have hd1 : ∀ j, doneN (-1) j = j := fun j => by unfold doneN; rw [if_pos (by omega)]
  have hl1 : ∀ j, leftB (-1) j = -1 := fun j => by unfold leftB; rw [if_pos (by omega)]
  have hp1 : ∀ j, powE6 (-1) j = 0 := fun j => by unfold powE6; rw [if_pos (by omega)]
  have hfm : ∀ p : Nat, 512 ≤ p → a + m ≤ p ∧ ak + (0) ≤ p := fun p h => by omega
  have hsum : m + (0) = m := by omega
  have e1 := fun (p n1 c1 : Nat) A1 Z w' (h : Bytes w' A1 n1 Z) (h' : Bytes w' (some B) m bs) hc1 hm1 => prgE_all (p : Int) A1 (some B) n1 c1 m d Z bs 0 (a : Int) (-1) w' h h' hc1 hm1 hd hdm (by decide)
  have e2 := fun (p n1 c1 : Nat) A1 Z w' (h : Bytes w' A1 n1 Z) (h' : Bytes w' (some B) m bs) hc1 hm1 => prgE_all (p : Int) A1 (some B) n1 c1 m d Z bs 0 (a : Int) (m : Int) w' h h' hc1 hm1 hd hdm (by omega)
  have e3 := fun (p n1 c1 : Nat) A1 Z w' (h : Bytes w' A1 n1 Z) (h' : Bytes w' (some (B.add m)) (0) (bs.drop m)) hc1 hm1 => prgE_all (p : Int) A1 (some (B.add m)) n1 c1 (0) (d - m) Z (bs.drop m) 0 (ak : Int) (-1) w' h h' hc1 hm1 (by omega) (by omega) (by decide)
  unfold GivesP at e1 e2 e3
  simp only [hd1, hl1, hp1, hdn, hlf, hpw] at e1 e2 e3
  have V1 := Lib.hid (wrap_nat a (by omega))
  have V2 := Lib.hid (iwrap_nat a (by omega))
  have V3 := Lib.hid (wrap_nat bu (by omega))
  have V4 := Lib.hid (iwrap_nat bu (by omega))
  have V5 := Lib.hid (wrap_nat ak (by omega))
  have V6 := Lib.hid (iwrap_nat ak (by omega))
  have HA := Lib.hid hA
  have HBB := Lib.hid hB
  have HLow := Lib.hid hLow
  have HFM := Lib.hid hfm
  have HAK := Lib.hid (And.intro hak hsum)
  have T1 := Lib.hid e1
  have T2 := Lib.hid e2
  have T3 := Lib.hid e3
  have s0 : ¬ (bu : Int) ≤ (m : Int) := by omega
  have s00 : (m : Int) < (bu : Int) := by omega
  have s1 : ¬ d = m := by omega
  have s2 : ¬ d - m = 0 := by omega
  have s4 : (m : Int) ≤ (d : Int) := by omega
  clear hA hB hLow hd hdm ha hbu h200 hdn hlf hpw hd1 hl1 hp1 hfm e1 e2 e3 hak hsum hcut hmd
  have ww1 := V1.out
  have ww2 := V2.out
  have ww3 := V3.out
  have ww4 := V4.out
  have ww5 := V5.out
  have ww6 := V6.out
  go_enter Try.func7, Try.ntmps7
  go_wp2_with fail
  refine (made_any x A n c zs _ HA.out).mono ?_
  rintro e w1 ⟨p, k, c1, A1, Z, rfl, hp, hk1, hk4, hy, hc1, hm1, hb⟩
  clear ww1 ww2 ww3 ww4 ww5 ww6
  obtain ⟨n1, hn1⟩ : ∃ n1, p * k = n1 := ⟨_, rfl⟩
  have hq0 : 512 ≤ p := by omega
  have hq1 : p ≤ 8192 := by omega
  have hpk : n1 % p = 0 := by rw [← hn1]; exact Nat.mul_mod_right _ _
  have hpd : n1 / p ≤ 8 := by rw [← hn1, Nat.mul_div_cancel_left _ (by omega)]; omega
  have hpos : 0 < n1 := by rw [← hn1]; exact Nat.mul_pos (by omega) hk1
  rw [hn1] at hy hc1
  rw [hn1]
  have hE1 : areE (p : Int) n1 0 (a : Int) (m : Int) = 0 := areE_in hq0 hq1 hpk hpos hpd (HFM.out p hq0).1
  have hE2 : areE (p : Int) n1 0 (ak : Int) ((0 : Nat) : Int) = 0 := areE_in hq0 hq1 hpk hpos hpd (HFM.out p hq0).2
  have hf1 : fromE (p : Int) 0 (a : Int) = a := by unfold fromE; omega
  have hf2 : fromE (p : Int) 0 (ak : Int) = ak := by unfold fromE; omega
  have e1 := fun w' (h : Bytes w' A1 n1 Z) h' => T1.out p n1 c1 A1 Z w' h h' hc1 hm1
  have e2 := fun w' (h : Bytes w' A1 n1 Z) h' => T2.out p n1 c1 A1 Z w' h h' hc1 hm1
  have e3 := fun A4 c4 w' (h : Bytes w' A4 n1 (chgL Z a (prgG bs) m)) h' hc4 hm4 => T3.out p n1 c4 A4 (chgL Z a (prgG bs) m) w' h h' hc4 hm4
  have hj := parts_join Z bs a (m) (0)
  rw [HAK.out.1, HAK.out.2] at hj
  simp only [hE1, hE2, hf1, hf2, hj, ifE_ok] at e1 e2 e3
  have hl1 : (chgL Z a (prgG bs) m).length = n1 := by rw [chgL_len]; exact hy.len
  have hl2 : (chgL Z a (prgG bs) m).length = n1 := by rw [chgL_len]; exact hy.len
  generalize chgL Z a (prgG bs) m = L1 at *
  have D1 := Lib.hid e1
  have D2 := Lib.hid e2
  have D3 := Lib.hid e3
  have HL := Lib.hid (And.intro hl1 hl2)
  have HBw := Lib.hid hb
  have HG0 := Lib.hid (Below.refl w.heap.size w)
  clear e1 e2 e3 hj hE1 hE2 hf1 hf2 hpk hpd hpos hn1 hp hk1 hk4 hc1 hm1 hq0 hq1 hl1 hl2
  have hbx := (Below.refl w1.heap.size w1).alloc (Nat.le_refl _) (.cells #[.int .i64 (p : Int), .slice A1 n1 c1] 24)
  have hbb := hb.trans (hbx.mono hb.size)
  have HY1 := Lib.hid (hy.below hbx)
  have HQ1 := Lib.hid hbb
  have HG1 := Lib.hid (HG0.out.trans (hbb.mono HG0.out.size))
  have HX1 := Lib.hid (Cs.new w1 24 [.int .i64 (p : Int), .slice A1 n1 c1])
  clear hb hbx hy hbb
  have ww1 := V1.out
  have ww2 := V2.out
  have ww3 := V3.out
  have ww4 := V4.out
  have ww5 := V5.out
  have ww6 := V6.out
  have HBB1 := Lib.hid (HBB.out.below HQ1.out)
  have u1 := HX1.out.cell 0
  have v1 := HX1.out.cell 1
  simp only [List.getElem?_cons_succ, List.getElem?_cons_zero] at u1 v1
  go_wp2_with fail
  refine (D1.out _ HY1.out HBB1.out).mono ?_
  rintro e w2 ⟨A2, n2, c2, rfl, hy, hk2, hm2, hb⟩
  obtain rfl : n2 = n1 := by rw [← hy.len]; exact HL.out.1
  have hbx := (Below.refl w2.heap.size w2).alloc (Nat.le_refl _) (.cells #[.int .i64 (p : Int), .slice A2 n2 c2] 24)
  have hbb := hb.trans (hbx.mono hb.size)
  have HY2 := Lib.hid (hy.below hbx)
  have HQ2 := Lib.hid hbb
  have HG2 := Lib.hid (HG1.out.trans (hbb.mono HG1.out.size))
  have HX2 := Lib.hid (Cs.new w2 24 [.int .i64 (p : Int), .slice A2 n2 c2])
  have hHX1 := (HX1.out.below hb HX1.out.lt).grow (.cells #[.int .i64 (p : Int), .slice A2 n2 c2] 24)
  clear hb hbx hy hbb
  clear HX1
  have HX1 := Lib.hid hHX1
  clear hHX1
  have HYf := Lib.hid (HY1.out.below HQ2.out)
  have HBB2 := Lib.hid (HBB1.out.below HQ2.out)
  clear u1 v1
  have u1 := HX1.out.cell 0
  have v1 := HX1.out.cell 1
  simp only [List.getElem?_cons_succ, List.getElem?_cons_zero] at u1 v1
  have u2 := HX2.out.cell 0
  have v2 := HX2.out.cell 1
  simp only [List.getElem?_cons_succ, List.getElem?_cons_zero] at u2 v2
  go_wp2_with fail
  refine (D2.out _ HYf.out HBB2.out).mono ?_
  rintro e w3 ⟨A3, n3, c3, rfl, hy, hk3, hm3, hb⟩
  obtain rfl : n3 = n2 := by rw [← hy.len]; exact HL.out.2
  have hbx := (Below.refl w3.heap.size w3).alloc (Nat.le_refl _) (.cells #[.int .i64 (p : Int), .slice A3 n3 c3] 24)
  have hbb := hb.trans (hbx.mono hb.size)
  have HY3 := Lib.hid (hy.below hbx)
  have HQ3 := Lib.hid hbb
  have HG3 := Lib.hid (HG2.out.trans (hbb.mono HG2.out.size))
  have HX3 := Lib.hid (Cs.new w3 24 [.int .i64 (p : Int), .slice A3 n3 c3])
  have hHX1 := (HX1.out.below hb HX1.out.lt).grow (.cells #[.int .i64 (p : Int), .slice A3 n3 c3] 24)
  have hHX2 := (HX2.out.below hb HX2.out.lt).grow (.cells #[.int .i64 (p : Int), .slice A3 n3 c3] 24)
  clear hb hbx hy hbb
  clear HX1
  have HX1 := Lib.hid hHX1
  clear hHX1
  clear HX2
  have HX2 := Lib.hid hHX2
  clear hHX2
  have HLow3 := Lib.hid (HLow.out.below HG3.out)
  clear u1 v1 u2 v2
  have u1 := HX1.out.cell 0
  have v1 := HX1.out.cell 1
  simp only [List.getElem?_cons_succ, List.getElem?_cons_zero] at u1 v1
  have u2 := HX2.out.cell 0
  have v2 := HX2.out.cell 1
  simp only [List.getElem?_cons_succ, List.getElem?_cons_zero] at u2 v2
  have u3 := HX3.out.cell 0
  have v3 := HX3.out.cell 1
  simp only [List.getElem?_cons_succ, List.getElem?_cons_zero] at u3 v3
  have HLd := Lib.hid (HLow3.out.below (Below.refl _ _).drew)
  have HYd := Lib.hid (HY3.out.below (Below.refl _ _).drew)
  have HX2d := Lib.hid HX2.out.drew
  have HYx := Lib.hid (((HY2.out.below HQ3.out)).below (Below.refl _ _).drew)
  have HGd := Lib.hid HG3.out.drew
  have HX3d := Lib.hid HX3.out.drew
  clear u1 v1 u2 v2 u3 v3
  go_wp2_with fail
  refine held_begin (by kernel_rfl) ?_
  refine held_take (i := 0) (v := ?_) rfl rfl (by kernel_rfl) (by kernel_rfl) (by kernel_rfl) (fun _ _ _ h => h) (by rfl) ?_ ?_
  rotate_left
  · intro W hW
    have z0 := (HX3d.out.below hW HX3d.out.lt).cell 0
    have y0 := (HX3d.out.below hW HX3d.out.lt).cell 1
    simp only [List.getElem?_cons_succ, List.getElem?_cons_zero] at z0 y0
    go_simp
    try with_reducible rfl
  simp only [Act.put, List.setIfInBounds_toArray, List.set_cons_zero, List.set_cons_succ]
  refine held_take (i := 1) (v := ?_) rfl rfl (by kernel_rfl) (by kernel_rfl) (by kernel_rfl) (fun _ _ _ h => h) (by rfl) ?_ ?_
  rotate_left
  · intro W hW
    go_simp
    try with_reducible rfl
  simp only [Act.put, List.setIfInBounds_toArray, List.set_cons_zero, List.set_cons_succ]
  refine held_take (i := 2) (v := ?_) rfl rfl (by kernel_rfl) (by kernel_rfl) (by kernel_rfl) (fun _ _ _ h => h) (by rfl) ?_ ?_
  rotate_left
  · intro W hW
    go_simp
    try with_reducible rfl
  simp only [Act.put, List.setIfInBounds_toArray, List.set_cons_zero, List.set_cons_succ]
  refine held_take (i := 3) (v := ?_) rfl rfl (by kernel_rfl) (by kernel_rfl) (by kernel_rfl) (fun _ _ _ h => h) (by rfl) ?_ ?_
  rotate_left
  · intro W hW
    go_simp
    try with_reducible rfl
  simp only [Act.put, List.setIfInBounds_toArray, List.set_cons_zero, List.set_cons_succ]
  refine held_take (i := 4) (v := ?_) rfl rfl (by kernel_rfl) (by kernel_rfl) (by kernel_rfl) (fun _ _ _ h => h) (by rfl) ?_ ?_
  rotate_left
  · intro W hW
    go_simp
    try with_reducible rfl
  simp only [Act.put, List.setIfInBounds_toArray, List.set_cons_zero, List.set_cons_succ]
  refine held_take (i := 5) (v := ?_) rfl rfl (by kernel_rfl) (by kernel_rfl) (by kernel_rfl) (fun _ _ _ h => h) (by rfl) ?_ ?_
  rotate_left
  · intro W hW
    go_simp
    try with_reducible rfl
  simp only [Act.put, List.setIfInBounds_toArray, List.set_cons_zero, List.set_cons_succ]
  refine held_take (i := 6) (v := ?_) rfl rfl (by kernel_rfl) (by kernel_rfl) (by kernel_rfl) (fun _ _ _ h => h) (by rfl) ?_ ?_
  rotate_left
  · intro W hW
    go_simp
    try with_reducible rfl
  simp only [Act.put, List.setIfInBounds_toArray, List.set_cons_zero, List.set_cons_succ]
  refine held_take (i := 7) (v := ?_) rfl rfl (by kernel_rfl) (by kernel_rfl) (by kernel_rfl) (fun _ _ _ h => h) (by rfl) ?_ ?_
  rotate_left
  · intro W hW
    go_simp
    try with_reducible rfl
  simp only [Act.put, List.setIfInBounds_toArray, List.set_cons_zero, List.set_cons_succ]
  refine hs_two (i := 8) (j := 13) (by kernel_rfl) rfl rfl ?_ ?_
  · intro K' hK
    go_simp
    refine (D3.out _ _ _ HYd.out HLd.out hk3 hm3).mono ?_
    rintro e w4 ⟨A4, n4, c4, rfl, hy4, _, _, hb⟩
    have hl4 := hy4.len
    obtain rfl : n4 = n3 := by rw [← hl4]; exact HL.out.1
    have HY4 := Lib.hid hy4
    have HX2e := Lib.hid (HX2d.out.below hb HX2d.out.lt)
    have HYxe := Lib.hid (HYx.out.below hb)
    have HGe := Lib.hid (HGd.out.trans (hb.mono HGd.out.size))
    refine hK.out _ _ hb ?_
    clear hK K'
    refine held_from (fun W h => hb.trans (h.mono hb.size)) ?_
    clear hb hy4 hl4
    refine held_take (i := 9) (v := ?_) rfl rfl (by kernel_rfl) (by kernel_rfl) (by kernel_rfl) (fun _ _ _ h => h) (by rfl) ?_ ?_
    rotate_left
    · intro W hW
      go_simp
      try with_reducible rfl
    simp only [Act.put, List.setIfInBounds_toArray, List.set_cons_zero, List.set_cons_succ]
    refine held_take (i := 10) (v := ?_) rfl rfl (by kernel_rfl) (by kernel_rfl) (by kernel_rfl) (fun _ _ _ h => h) (by rfl) ?_ ?_
    rotate_left
    · intro W hW
      go_simp
      try with_reducible rfl
    simp only [Act.put, List.setIfInBounds_toArray, List.set_cons_zero, List.set_cons_succ]
    refine held_take (i := 11) (v := ?_) rfl rfl (by kernel_rfl) (by kernel_rfl) (by kernel_rfl) (fun _ _ _ h => h) (by rfl) ?_ ?_
    rotate_left
    · intro W hW
      go_simp
      try with_reducible rfl
    simp only [Act.put, List.setIfInBounds_toArray, List.set_cons_zero, List.set_cons_succ]
    refine held_take (i := 12) (v := ?_) rfl rfl (by kernel_rfl) (by kernel_rfl) (by kernel_rfl) (fun _ _ _ h => h) (by rfl) ?_ ?_
    rotate_left
    · intro W hW
      go_simp
      try with_reducible rfl
    simp only [Act.put, List.setIfInBounds_toArray, List.set_cons_zero, List.set_cons_succ]
    have hS := (Below.refl w4.heap.size w4).alloc (Nat.le_refl _) (.cells #[.int .i64 0, .slice none 0 0] 24)
    refine hs_call (i := 13) (by kernel_rfl) rfl (fun K' hK => ?_)
    go_simp
    refine hK.out _ _ hS ?_
    clear hK K'
    have hq := Cs.new w4 24 [.int .i64 0, .slice none 0 0]
    have q0 := hq.cell 0
    have q1 := hq.cell 1
    have f0 := hq.free 0
    have f1 := hq.free 1
    simp only [List.getElem?_cons_succ, List.getElem?_cons_zero] at q0 q1
    refine hs_call (i := 14) (by kernel_rfl) rfl (fun K' hK => ?_)
    go_simp
    have hS4 := (Below.refl w4.heap.size w4).alloc (Nat.le_refl _) (.cells #[.int .i64 (p : Int), .slice A4 n4 c4] 24)
    refine hK.out _ _ hS4 ?_
    clear hK K' q0 q1 f0 f1 hS hq
    refine hs_take (i := 15) (v := ?_) rfl rfl (by kernel_rfl) (by kernel_rfl) (by kernel_rfl) (fun _ _ _ h => h) (by rfl) hS4 ?_ ?_
    rotate_left
    · intro W' hW'
      go_simp
      try with_reducible rfl
    simp only [Act.put, List.setIfInBounds_toArray, List.set_cons_zero, List.set_cons_succ]
    refine hs_take (i := 16) (v := ?_) rfl rfl (by kernel_rfl) (by kernel_rfl) (by kernel_rfl) (fun _ _ _ h => h) (by rfl) hS4 ?_ ?_
    rotate_left
    · intro W' hW'
      go_simp
      try with_reducible rfl
    simp only [Act.put, List.setIfInBounds_toArray, List.set_cons_zero, List.set_cons_succ]
    refine wpAnyH_done (by kernel_rfl) ?_ _
    have HX2f := HX2e.out.grow (.cells #[.int .i64 (p : Int), .slice A4 n4 c4] 24)
    have HX4f := Cs.new w4 24 [.int .i64 (p : Int), .slice A4 n4 c4]
    have u2 := HX2f.cell 0
    have v2 := HX2f.cell 1
    have u4 := HX4f.cell 0
    have v4 := HX4f.cell 1
    simp only [List.getElem?_cons_succ, List.getElem?_cons_zero] at u2 v2 u4 v4
    have HYa := Lib.hid (HYxe.out.below hS4)
    have HYb := Lib.hid (HY4.out.below hS4)
    have HGf := Lib.hid (HGe.out.trans (hS4.mono HGe.out.size))
    clear hS4 HX2f HX4f
    go_wp2_with fail
    refine (same_any (p : Int) A2 A4 n4 c2 n4 c4 L1 _ HYa.out HYb.out).mono ?_
    rintro e w5 ⟨rfl, hb⟩
    have HGg := Lib.hid (HGf.out.trans (hb.mono HGf.out.size))
    clear hb
    go_wp2_with fail
    refine (awake7_any _).mono ?_
    rintro e w6 ⟨rfl, hb⟩
    have HGh := Lib.hid (HGg.out.trans (hb.mono HGg.out.size))
    clear hb
    go_wp2
    go_ret
    exact ⟨rfl, HGh.out⟩
  · intro K' hK
    go_simp
    have hS : Below (w3.alloc (.cells #[.int .i64 (p : Int), .slice A3 n3 c3] 24)).drew.heap.size (w3.alloc (.cells #[.int .i64 (p : Int), .slice A3 n3 c3] 24)).drew ((w3.alloc (.cells #[.int .i64 (p : Int), .slice A3 n3 c3] 24)).alloc (.cells #[.int .i64 0, .slice none 0 0] 24)).drew := (Below.refl _ (w3.alloc (.cells #[.int .i64 (p : Int), .slice A3 n3 c3] 24)).drew).alloc (Nat.le_refl _) (.cells #[.int .i64 0, .slice none 0 0] 24)
    have HYz := Lib.hid (HYd.out.below hS)
    have HLz := Lib.hid (HLd.out.below hS)
    have HYxz := Lib.hid (HYx.out.below hS)
    have HX2z := Lib.hid (HX2d.out.below hS HX2d.out.lt)
    have HZz := Lib.hid ((Cs.new2 w3 (.cells #[.int .i64 (p : Int), .slice A3 n3 c3] 24) 24 [.int .i64 0, .slice none 0 0]).drew)
    have HGz := Lib.hid (HGd.out.trans (hS.mono HGd.out.size))
    have HSz := Lib.hid hS
    have hbw : w.heap.size ≤ w3.heap.size + 1 := by have h9 := HGd.out.size; simpa using h9
    have hne : w2.heap.size ≠ w3.heap.size + 1 := by have h9 := HX2d.out.lt; simp at h9; omega
    have HNE := Lib.hid (And.intro hbw hne)
    refine hK.out _ _ hS ?_
    clear hK K' hS hbw hne
    refine hs_call (i := 8) (by kernel_rfl) rfl (fun K' hK => ?_)
    go_simp
    refine (D3.out _ _ _ HYz.out HLz.out hk3 hm3).mono ?_
    rintro e w4 ⟨A4, n4, c4, rfl, hy4, _, _, hb⟩
    have hl4 := hy4.len
    obtain rfl : n4 = n3 := by rw [← hl4]; exact HL.out.1
    have HY4 := Lib.hid hy4
    have HX2e := Lib.hid (HX2z.out.below hb HX2z.out.lt)
    have HYxe := Lib.hid (HYxz.out.below hb)
    have HZ4 := Lib.hid (HZz.out.below hb HZz.out.lt)
    have HGe := Lib.hid (HGz.out.trans (hb.mono HGz.out.size))
    have HS4 := Lib.hid (HSz.out.trans (hb.mono HSz.out.size))
    refine hK.out _ _ HS4.out ?_
    clear hK K' hb hy4 hl4
    refine hs_take (i := 9) (v := ?_) rfl rfl (by kernel_rfl) (by kernel_rfl) (by kernel_rfl) (fun _ _ _ h => h) (by rfl) HS4.out ?_ ?_
    rotate_left
    · intro W' hW'
      go_simp
      try with_reducible rfl
    simp only [Act.put, List.setIfInBounds_toArray, List.set_cons_zero, List.set_cons_succ]
    refine hs_take (i := 10) (v := ?_) rfl rfl (by kernel_rfl) (by kernel_rfl) (by kernel_rfl) (fun _ _ _ h => h) (by rfl) HS4.out ?_ ?_
    rotate_left
    · intro W' hW'
      go_simp
      try with_reducible rfl
    simp only [Act.put, List.setIfInBounds_toArray, List.set_cons_zero, List.set_cons_succ]
    refine hs_take (i := 11) (v := ?_) rfl rfl (by kernel_rfl) (by kernel_rfl) (by kernel_rfl) (fun _ _ _ h => h) (by rfl) HS4.out ?_ ?_
    rotate_left
    · intro W' hW'
      go_simp
      try with_reducible rfl
    simp only [Act.put, List.setIfInBounds_toArray, List.set_cons_zero, List.set_cons_succ]
    refine hs_take (i := 12) (v := ?_) rfl rfl (by kernel_rfl) (by kernel_rfl) (by kernel_rfl) (fun _ _ _ h => h) (by rfl) HS4.out ?_ ?_
    rotate_left
    · intro W' hW'
      go_simp
      try with_reducible rfl
    simp only [Act.put, List.setIfInBounds_toArray, List.set_cons_zero, List.set_cons_succ]
    have q0 := HZ4.out.cell 0
    have q1 := HZ4.out.cell 1
    have f0 := HZ4.out.free 0
    have f1 := HZ4.out.free 1
    simp only [List.getElem?_cons_succ, List.getElem?_cons_zero] at q0 q1
    have hS5 := (HS4.out.setCell (p := ⟨w3.heap.size + 1, 0, none⟩) (by simp) (.int .i64 (p : Int))).setCell (p := ⟨w3.heap.size + 1, 1, none⟩) (by simp) (.slice A4 n4 c4)
    have HYb := Lib.hid (HY4.out.setTwo (.int .i64 (p : Int)) (.slice A4 n4 c4) _ _ q0 q1 (fun z e => by cases e) (fun z e => by cases e))
    have HYa := Lib.hid (HYxe.out.setTwo (.int .i64 (p : Int)) (.slice A4 n4 c4) _ _ q0 q1 (fun z e => by cases e) (fun z e => by cases e))
    refine hs_call (i := 14) (by kernel_rfl) rfl (fun K' hK => ?_)
    go_simp
    refine hK.out _ _ hS5 ?_
    clear hK K' q0 q1 f0 f1
    refine hs_take (i := 15) (v := ?_) rfl rfl (by kernel_rfl) (by kernel_rfl) (by kernel_rfl) (fun _ _ _ h => h) (by rfl) hS5 ?_ ?_
    rotate_left
    · intro W' hW'
      go_simp
      try with_reducible rfl
    simp only [Act.put, List.setIfInBounds_toArray, List.set_cons_zero, List.set_cons_succ]
    refine hs_take (i := 16) (v := ?_) rfl rfl (by kernel_rfl) (by kernel_rfl) (by kernel_rfl) (fun _ _ _ h => h) (by rfl) hS5 ?_ ?_
    rotate_left
    · intro W' hW'
      go_simp
      try with_reducible rfl
    simp only [Act.put, List.setIfInBounds_toArray, List.set_cons_zero, List.set_cons_succ]
    refine wpAnyH_done (by kernel_rfl) ?_ _
    have HX2f := (HX2e.out.far_set 0 (.int .i64 (p : Int)) HNE.out.2).far_set 1 (.slice A4 n4 c4) HNE.out.2
    have HX4f := (HZ4.out.set_ 0 (.int .i64 (p : Int))).set_ 1 (.slice A4 n4 c4)
    have u2 := HX2f.cell 0
    have v2 := HX2f.cell 1
    have u4 := HX4f.cell 0
    have v4 := HX4f.cell 1
    simp only [List.set_cons_zero, List.set_cons_succ, List.getElem?_cons_succ, List.getElem?_cons_zero] at u2 v2 u4 v4
    have HGf := Lib.hid ((HGe.out.setCell (p := ⟨w3.heap.size + 1, 0, none⟩) HNE.out.1 (.int .i64 (p : Int))).setCell (p := ⟨w3.heap.size + 1, 1, none⟩) HNE.out.1 (.slice A4 n4 c4))
    clear hS5 HX2f HX4f
    go_wp2_with fail
    refine (same_any (p : Int) A2 A4 n4 c2 n4 c4 L1 _ HYa.out HYb.out).mono ?_
    rintro e w5 ⟨rfl, hb⟩
    have HGg := Lib.hid (HGf.out.trans (hb.mono HGf.out.size))
    clear hb
    go_wp2_with fail
    refine (awake7_any _).mono ?_
    rintro e w6 ⟨rfl, hb⟩
    have HGh := Lib.hid (HGg.out.trans (hb.mono HGg.out.size))
    clear hb
    go_wp2
    go_ret
    exact ⟨rfl, HGh.out⟩
set_option maxHeartbeats 8000000 in
theorem parts_v3 (x : Int) (A : Option Addr) (B : Addr) (n c m a bu : Nat) (zs bs : List Int) (w : World) (hA : Nums w A n zs) (hB : Bytes w (some B) m bs) (hd : m ≤ m) (hdm : m ≤ 9223372036854775807) (ha : a ≤ 255) (hbu : bu ≤ 255) (h200 : m ≤ 200) (hcut : m < bu) :
    Calls Try.prog 7 #[.int .i64 x, .slice A n c, .int .u8 (a : Int), .slice (some B) m m, .int .u8 (bu : Int)] w fun e w' => e = .returned (.bool true) ∧ Below w.heap.size w w' := by
  have h1 : ¬ (200 : Int) < (m : Int) := by omega
  have hmin : min (bu : Int) (m : Int) = (m : Int) := by omega
  have hLow : Bytes w (some B) (0) (bs.drop m) := (by rw [List.drop_of_length_le (by rw [hB.len]; exact Nat.le_refl _)]; exact hB.take 0 (Nat.zero_le _))
  obtain ⟨ak, hak⟩ : ∃ ak, a + m = ak := ⟨_, rfl⟩
  have hakI : (a : Int) + (m : Int) = (ak : Int) := by omega
  have hdn : doneN (m : Int) m = m := by unfold doneN; rw [if_pos (by omega)]
  have hlf : leftB (m : Int) m = 0 := by unfold leftB; rw [if_neg (by omega)]; rw [if_pos (by omega)]; omega
  have hpw : powE6 (m : Int) m = 0 := by unfold powE6; rw [if_pos (by omega)]
  have hd1 : ∀ j, doneN (-1) j = j := fun j => by unfold doneN; rw [if_pos (by omega)]
  have hl1 : ∀ j, leftB (-1) j = -1 := fun j => by unfold leftB; rw [if_pos (by omega)]
  have hp1 : ∀ j, powE6 (-1) j = 0 := fun j => by unfold powE6; rw [if_pos (by omega)]
  have hfm : ∀ p : Nat, 512 ≤ p → a + m ≤ p ∧ ak + (0) ≤ p := fun p h => by omega
  have hsum : m + (0) = m := by omega
  have e1 := fun (p n1 c1 : Nat) A1 Z w' (h : Bytes w' A1 n1 Z) (h' : Bytes w' (some B) m bs) hc1 hm1 => prgE_all (p : Int) A1 (some B) n1 c1 m m Z bs 0 (a : Int) (-1) w' h h' hc1 hm1 hd hdm (by decide)
  have e2 := fun (p n1 c1 : Nat) A1 Z w' (h : Bytes w' A1 n1 Z) (h' : Bytes w' (some B) m bs) hc1 hm1 => prgE_all (p : Int) A1 (some B) n1 c1 m m Z bs 0 (a : Int) (m : Int) w' h h' hc1 hm1 hd hdm (by omega)
  have e3 := fun (p n1 c1 : Nat) A1 Z w' (h : Bytes w' A1 n1 Z) (h' : Bytes w' (some B) (0) (bs.drop m)) hc1 hm1 => prgE_all (p : Int) A1 (some B) n1 c1 (0) (0) Z (bs.drop m) 0 (ak : Int) (-1) w' h h' hc1 hm1 (by omega) (by omega) (by decide)
  unfold GivesP at e1 e2 e3
  simp only [hd1, hl1, hp1, hdn, hlf, hpw] at e1 e2 e3
  have V1 := Lib.hid (wrap_nat a (by omega))
  have V2 := Lib.hid (iwrap_nat a (by omega))
  have V3 := Lib.hid (wrap_nat bu (by omega))
  have V4 := Lib.hid (iwrap_nat bu (by omega))
  have V5 := Lib.hid (wrap_nat ak (by omega))
  have V6 := Lib.hid (iwrap_nat ak (by omega))
  have HA := Lib.hid hA
  have HBB := Lib.hid hB
  have HLow := Lib.hid hLow
  have HFM := Lib.hid hfm
  have HAK := Lib.hid (And.intro hak hsum)
  have T1 := Lib.hid e1
  have T2 := Lib.hid e2
  have T3 := Lib.hid e3
  have s0 : ¬ (bu : Int) ≤ (m : Int) := by omega
  have s00 : (m : Int) < (bu : Int) := by omega
  clear hA hB hLow hd hdm ha hbu h200 hdn hlf hpw hd1 hl1 hp1 hfm e1 e2 e3 hak hsum hcut
  have ww1 := V1.out
  have ww2 := V2.out
  have ww3 := V3.out
  have ww4 := V4.out
  have ww5 := V5.out
  have ww6 := V6.out
  go_enter Try.func7, Try.ntmps7
  go_wp2_with fail
  refine (made_any x A n c zs _ HA.out).mono ?_
  rintro e w1 ⟨p, k, c1, A1, Z, rfl, hp, hk1, hk4, hy, hc1, hm1, hb⟩
  clear ww1 ww2 ww3 ww4 ww5 ww6
  obtain ⟨n1, hn1⟩ : ∃ n1, p * k = n1 := ⟨_, rfl⟩
  have hq0 : 512 ≤ p := by omega
  have hq1 : p ≤ 8192 := by omega
  have hpk : n1 % p = 0 := by rw [← hn1]; exact Nat.mul_mod_right _ _
  have hpd : n1 / p ≤ 8 := by rw [← hn1, Nat.mul_div_cancel_left _ (by omega)]; omega
  have hpos : 0 < n1 := by rw [← hn1]; exact Nat.mul_pos (by omega) hk1
  rw [hn1] at hy hc1
  rw [hn1]
  have hE1 : areE (p : Int) n1 0 (a : Int) (m : Int) = 0 := areE_in hq0 hq1 hpk hpos hpd (HFM.out p hq0).1
  have hE2 : areE (p : Int) n1 0 (ak : Int) ((0 : Nat) : Int) = 0 := areE_in hq0 hq1 hpk hpos hpd (HFM.out p hq0).2
  have hf1 : fromE (p : Int) 0 (a : Int) = a := by unfold fromE; omega
  have hf2 : fromE (p : Int) 0 (ak : Int) = ak := by unfold fromE; omega
  have e1 := fun w' (h : Bytes w' A1 n1 Z) h' => T1.out p n1 c1 A1 Z w' h h' hc1 hm1
  have e2 := fun w' (h : Bytes w' A1 n1 Z) h' => T2.out p n1 c1 A1 Z w' h h' hc1 hm1
  have e3 := fun A4 c4 w' (h : Bytes w' A4 n1 (chgL Z a (prgG bs) m)) h' hc4 hm4 => T3.out p n1 c4 A4 (chgL Z a (prgG bs) m) w' h h' hc4 hm4
  have hj := parts_join Z bs a (m) (0)
  rw [HAK.out.1, HAK.out.2] at hj
  simp only [hE1, hE2, hf1, hf2, hj, ifE_ok] at e1 e2 e3
  have hl1 : (chgL Z a (prgG bs) m).length = n1 := by rw [chgL_len]; exact hy.len
  have hl2 : (chgL Z a (prgG bs) m).length = n1 := by rw [chgL_len]; exact hy.len
  generalize chgL Z a (prgG bs) m = L1 at *
  have D1 := Lib.hid e1
  have D2 := Lib.hid e2
  have D3 := Lib.hid e3
  have HL := Lib.hid (And.intro hl1 hl2)
  have HBw := Lib.hid hb
  have HG0 := Lib.hid (Below.refl w.heap.size w)
  clear e1 e2 e3 hj hE1 hE2 hf1 hf2 hpk hpd hpos hn1 hp hk1 hk4 hc1 hm1 hq0 hq1 hl1 hl2
  have hbx := (Below.refl w1.heap.size w1).alloc (Nat.le_refl _) (.cells #[.int .i64 (p : Int), .slice A1 n1 c1] 24)
  have hbb := hb.trans (hbx.mono hb.size)
  have HY1 := Lib.hid (hy.below hbx)
  have HQ1 := Lib.hid hbb
  have HG1 := Lib.hid (HG0.out.trans (hbb.mono HG0.out.size))
  have HX1 := Lib.hid (Cs.new w1 24 [.int .i64 (p : Int), .slice A1 n1 c1])
  clear hb hbx hy hbb
  have ww1 := V1.out
  have ww2 := V2.out
  have ww3 := V3.out
  have ww4 := V4.out
  have ww5 := V5.out
  have ww6 := V6.out
  have HBB1 := Lib.hid (HBB.out.below HQ1.out)
  have u1 := HX1.out.cell 0
  have v1 := HX1.out.cell 1
  simp only [List.getElem?_cons_succ, List.getElem?_cons_zero] at u1 v1
  go_wp2_with fail
  refine (D1.out _ HY1.out HBB1.out).mono ?_
  rintro e w2 ⟨A2, n2, c2, rfl, hy, hk2, hm2, hb⟩
  obtain rfl : n2 = n1 := by rw [← hy.len]; exact HL.out.1
  have hbx := (Below.refl w2.heap.size w2).alloc (Nat.le_refl _) (.cells #[.int .i64 (p : Int), .slice A2 n2 c2] 24)
  have hbb := hb.trans (hbx.mono hb.size)
  have HY2 := Lib.hid (hy.below hbx)
  have HQ2 := Lib.hid hbb
  have HG2 := Lib.hid (HG1.out.trans (hbb.mono HG1.out.size))
  have HX2 := Lib.hid (Cs.new w2 24 [.int .i64 (p : Int), .slice A2 n2 c2])
  have hHX1 := (HX1.out.below hb HX1.out.lt).grow (.cells #[.int .i64 (p : Int), .slice A2 n2 c2] 24)
  clear hb hbx hy hbb
  clear HX1
  have HX1 := Lib.hid hHX1
  clear hHX1
  have HYf := Lib.hid (HY1.out.below HQ2.out)
  have HBB2 := Lib.hid (HBB1.out.below HQ2.out)
  clear u1 v1
  have u1 := HX1.out.cell 0
  have v1 := HX1.out.cell 1
  simp only [List.getElem?_cons_succ, List.getElem?_cons_zero] at u1 v1
  have u2 := HX2.out.cell 0
  have v2 := HX2.out.cell 1
  simp only [List.getElem?_cons_succ, List.getElem?_cons_zero] at u2 v2
  go_wp2_with fail
  refine (D2.out _ HYf.out HBB2.out).mono ?_
  rintro e w3 ⟨A3, n3, c3, rfl, hy, hk3, hm3, hb⟩
  obtain rfl : n3 = n2 := by rw [← hy.len]; exact HL.out.2
  have hbx := (Below.refl w3.heap.size w3).alloc (Nat.le_refl _) (.cells #[.int .i64 (p : Int), .slice A3 n3 c3] 24)
  have hbb := hb.trans (hbx.mono hb.size)
  have HY3 := Lib.hid (hy.below hbx)
  have HQ3 := Lib.hid hbb
  have HG3 := Lib.hid (HG2.out.trans (hbb.mono HG2.out.size))
  have HX3 := Lib.hid (Cs.new w3 24 [.int .i64 (p : Int), .slice A3 n3 c3])
  have hHX1 := (HX1.out.below hb HX1.out.lt).grow (.cells #[.int .i64 (p : Int), .slice A3 n3 c3] 24)
  have hHX2 := (HX2.out.below hb HX2.out.lt).grow (.cells #[.int .i64 (p : Int), .slice A3 n3 c3] 24)
  clear hb hbx hy hbb
  clear HX1
  have HX1 := Lib.hid hHX1
  clear hHX1
  clear HX2
  have HX2 := Lib.hid hHX2
  clear hHX2
  have HLow3 := Lib.hid (HLow.out.below HG3.out)
  clear u1 v1 u2 v2
  have u1 := HX1.out.cell 0
  have v1 := HX1.out.cell 1
  simp only [List.getElem?_cons_succ, List.getElem?_cons_zero] at u1 v1
  have u2 := HX2.out.cell 0
  have v2 := HX2.out.cell 1
  simp only [List.getElem?_cons_succ, List.getElem?_cons_zero] at u2 v2
  have u3 := HX3.out.cell 0
  have v3 := HX3.out.cell 1
  simp only [List.getElem?_cons_succ, List.getElem?_cons_zero] at u3 v3
  have HLd := Lib.hid (HLow3.out.below (Below.refl _ _).drew)
  have HYd := Lib.hid (HY3.out.below (Below.refl _ _).drew)
  have HX2d := Lib.hid HX2.out.drew
  have HYx := Lib.hid (((HY2.out.below HQ3.out)).below (Below.refl _ _).drew)
  have HGd := Lib.hid HG3.out.drew
  have HX3d := Lib.hid HX3.out.drew
  clear u1 v1 u2 v2 u3 v3
  go_wp2_with fail
  refine held_begin (by kernel_rfl) ?_
  refine held_take (i := 0) (v := ?_) rfl rfl (by kernel_rfl) (by kernel_rfl) (by kernel_rfl) (fun _ _ _ h => h) (by rfl) ?_ ?_
  rotate_left
  · intro W hW
    have z0 := (HX3d.out.below hW HX3d.out.lt).cell 0
    have y0 := (HX3d.out.below hW HX3d.out.lt).cell 1
    simp only [List.getElem?_cons_succ, List.getElem?_cons_zero] at z0 y0
    go_simp
    try with_reducible rfl
  simp only [Act.put, List.setIfInBounds_toArray, List.set_cons_zero, List.set_cons_succ]
  refine held_take (i := 1) (v := ?_) rfl rfl (by kernel_rfl) (by kernel_rfl) (by kernel_rfl) (fun _ _ _ h => h) (by rfl) ?_ ?_
  rotate_left
  · intro W hW
    go_simp
    try with_reducible rfl
  simp only [Act.put, List.setIfInBounds_toArray, List.set_cons_zero, List.set_cons_succ]
  refine held_take (i := 2) (v := ?_) rfl rfl (by kernel_rfl) (by kernel_rfl) (by kernel_rfl) (fun _ _ _ h => h) (by rfl) ?_ ?_
  rotate_left
  · intro W hW
    go_simp
    try with_reducible rfl
  simp only [Act.put, List.setIfInBounds_toArray, List.set_cons_zero, List.set_cons_succ]
  refine held_take (i := 3) (v := ?_) rfl rfl (by kernel_rfl) (by kernel_rfl) (by kernel_rfl) (fun _ _ _ h => h) (by rfl) ?_ ?_
  rotate_left
  · intro W hW
    go_simp
    try with_reducible rfl
  simp only [Act.put, List.setIfInBounds_toArray, List.set_cons_zero, List.set_cons_succ]
  refine held_take (i := 4) (v := ?_) rfl rfl (by kernel_rfl) (by kernel_rfl) (by kernel_rfl) (fun _ _ _ h => h) (by rfl) ?_ ?_
  rotate_left
  · intro W hW
    go_simp
    try with_reducible rfl
  simp only [Act.put, List.setIfInBounds_toArray, List.set_cons_zero, List.set_cons_succ]
  refine held_take (i := 5) (v := ?_) rfl rfl (by kernel_rfl) (by kernel_rfl) (by kernel_rfl) (fun _ _ _ h => h) (by rfl) ?_ ?_
  rotate_left
  · intro W hW
    go_simp
    try with_reducible rfl
  simp only [Act.put, List.setIfInBounds_toArray, List.set_cons_zero, List.set_cons_succ]
  refine held_take (i := 6) (v := ?_) rfl rfl (by kernel_rfl) (by kernel_rfl) (by kernel_rfl) (fun _ _ _ h => h) (by rfl) ?_ ?_
  rotate_left
  · intro W hW
    go_simp
    try with_reducible rfl
  simp only [Act.put, List.setIfInBounds_toArray, List.set_cons_zero, List.set_cons_succ]
  refine held_take (i := 7) (v := ?_) rfl rfl (by kernel_rfl) (by kernel_rfl) (by kernel_rfl) (fun _ _ _ h => h) (by rfl) ?_ ?_
  rotate_left
  · intro W hW
    go_simp
    try with_reducible rfl
  simp only [Act.put, List.setIfInBounds_toArray, List.set_cons_zero, List.set_cons_succ]
  refine hs_two (i := 8) (j := 13) (by kernel_rfl) rfl rfl ?_ ?_
  · intro K' hK
    go_simp
    refine (D3.out _ _ _ HYd.out HLd.out hk3 hm3).mono ?_
    rintro e w4 ⟨A4, n4, c4, rfl, hy4, _, _, hb⟩
    have hl4 := hy4.len
    obtain rfl : n4 = n3 := by rw [← hl4]; exact HL.out.1
    have HY4 := Lib.hid hy4
    have HX2e := Lib.hid (HX2d.out.below hb HX2d.out.lt)
    have HYxe := Lib.hid (HYx.out.below hb)
    have HGe := Lib.hid (HGd.out.trans (hb.mono HGd.out.size))
    refine hK.out _ _ hb ?_
    clear hK K'
    refine held_from (fun W h => hb.trans (h.mono hb.size)) ?_
    clear hb hy4 hl4
    refine held_take (i := 9) (v := ?_) rfl rfl (by kernel_rfl) (by kernel_rfl) (by kernel_rfl) (fun _ _ _ h => h) (by rfl) ?_ ?_
    rotate_left
    · intro W hW
      go_simp
      try with_reducible rfl
    simp only [Act.put, List.setIfInBounds_toArray, List.set_cons_zero, List.set_cons_succ]
    refine held_take (i := 10) (v := ?_) rfl rfl (by kernel_rfl) (by kernel_rfl) (by kernel_rfl) (fun _ _ _ h => h) (by rfl) ?_ ?_
    rotate_left
    · intro W hW
      go_simp
      try with_reducible rfl
    simp only [Act.put, List.setIfInBounds_toArray, List.set_cons_zero, List.set_cons_succ]
    refine held_take (i := 11) (v := ?_) rfl rfl (by kernel_rfl) (by kernel_rfl) (by kernel_rfl) (fun _ _ _ h => h) (by rfl) ?_ ?_
    rotate_left
    · intro W hW
      go_simp
      try with_reducible rfl
    simp only [Act.put, List.setIfInBounds_toArray, List.set_cons_zero, List.set_cons_succ]
    refine held_take (i := 12) (v := ?_) rfl rfl (by kernel_rfl) (by kernel_rfl) (by kernel_rfl) (fun _ _ _ h => h) (by rfl) ?_ ?_
    rotate_left
    · intro W hW
      go_simp
      try with_reducible rfl
    simp only [Act.put, List.setIfInBounds_toArray, List.set_cons_zero, List.set_cons_succ]
    have hS := (Below.refl w4.heap.size w4).alloc (Nat.le_refl _) (.cells #[.int .i64 0, .slice none 0 0] 24)
    refine hs_call (i := 13) (by kernel_rfl) rfl (fun K' hK => ?_)
    go_simp
    refine hK.out _ _ hS ?_
    clear hK K'
    have hq := Cs.new w4 24 [.int .i64 0, .slice none 0 0]
    have q0 := hq.cell 0
    have q1 := hq.cell 1
    have f0 := hq.free 0
    have f1 := hq.free 1
    simp only [List.getElem?_cons_succ, List.getElem?_cons_zero] at q0 q1
    refine hs_call (i := 14) (by kernel_rfl) rfl (fun K' hK => ?_)
    go_simp
    have hS4 := (Below.refl w4.heap.size w4).alloc (Nat.le_refl _) (.cells #[.int .i64 (p : Int), .slice A4 n4 c4] 24)
    refine hK.out _ _ hS4 ?_
    clear hK K' q0 q1 f0 f1 hS hq
    refine hs_take (i := 15) (v := ?_) rfl rfl (by kernel_rfl) (by kernel_rfl) (by kernel_rfl) (fun _ _ _ h => h) (by rfl) hS4 ?_ ?_
    rotate_left
    · intro W' hW'
      go_simp
      try with_reducible rfl
    simp only [Act.put, List.setIfInBounds_toArray, List.set_cons_zero, List.set_cons_succ]
    refine hs_take (i := 16) (v := ?_) rfl rfl (by kernel_rfl) (by kernel_rfl) (by kernel_rfl) (fun _ _ _ h => h) (by rfl) hS4 ?_ ?_
    rotate_left
    · intro W' hW'
      go_simp
      try with_reducible rfl
    simp only [Act.put, List.setIfInBounds_toArray, List.set_cons_zero, List.set_cons_succ]
    refine wpAnyH_done (by kernel_rfl) ?_ _
    have HX2f := HX2e.out.grow (.cells #[.int .i64 (p : Int), .slice A4 n4 c4] 24)
    have HX4f := Cs.new w4 24 [.int .i64 (p : Int), .slice A4 n4 c4]
    have u2 := HX2f.cell 0
    have v2 := HX2f.cell 1
    have u4 := HX4f.cell 0
    have v4 := HX4f.cell 1
    simp only [List.getElem?_cons_succ, List.getElem?_cons_zero] at u2 v2 u4 v4
    have HYa := Lib.hid (HYxe.out.below hS4)
    have HYb := Lib.hid (HY4.out.below hS4)
    have HGf := Lib.hid (HGe.out.trans (hS4.mono HGe.out.size))
    clear hS4 HX2f HX4f
    go_wp2_with fail
    refine (same_any (p : Int) A2 A4 n4 c2 n4 c4 L1 _ HYa.out HYb.out).mono ?_
    rintro e w5 ⟨rfl, hb⟩
    have HGg := Lib.hid (HGf.out.trans (hb.mono HGf.out.size))
    clear hb
    go_wp2_with fail
    refine (awake7_any _).mono ?_
    rintro e w6 ⟨rfl, hb⟩
    have HGh := Lib.hid (HGg.out.trans (hb.mono HGg.out.size))
    clear hb
    go_wp2
    go_ret
    exact ⟨rfl, HGh.out⟩
  · intro K' hK
    go_simp
    have hS : Below (w3.alloc (.cells #[.int .i64 (p : Int), .slice A3 n3 c3] 24)).drew.heap.size (w3.alloc (.cells #[.int .i64 (p : Int), .slice A3 n3 c3] 24)).drew ((w3.alloc (.cells #[.int .i64 (p : Int), .slice A3 n3 c3] 24)).alloc (.cells #[.int .i64 0, .slice none 0 0] 24)).drew := (Below.refl _ (w3.alloc (.cells #[.int .i64 (p : Int), .slice A3 n3 c3] 24)).drew).alloc (Nat.le_refl _) (.cells #[.int .i64 0, .slice none 0 0] 24)
    have HYz := Lib.hid (HYd.out.below hS)
    have HLz := Lib.hid (HLd.out.below hS)
    have HYxz := Lib.hid (HYx.out.below hS)
    have HX2z := Lib.hid (HX2d.out.below hS HX2d.out.lt)
    have HZz := Lib.hid ((Cs.new2 w3 (.cells #[.int .i64 (p : Int), .slice A3 n3 c3] 24) 24 [.int .i64 0, .slice none 0 0]).drew)
    have HGz := Lib.hid (HGd.out.trans (hS.mono HGd.out.size))
    have HSz := Lib.hid hS
    have hbw : w.heap.size ≤ w3.heap.size + 1 := by have h9 := HGd.out.size; simpa using h9
    have hne : w2.heap.size ≠ w3.heap.size + 1 := by have h9 := HX2d.out.lt; simp at h9; omega
    have HNE := Lib.hid (And.intro hbw hne)
    refine hK.out _ _ hS ?_
    clear hK K' hS hbw hne
    refine hs_call (i := 8) (by kernel_rfl) rfl (fun K' hK => ?_)
    go_simp
    refine (D3.out _ _ _ HYz.out HLz.out hk3 hm3).mono ?_
    rintro e w4 ⟨A4, n4, c4, rfl, hy4, _, _, hb⟩
    have hl4 := hy4.len
    obtain rfl : n4 = n3 := by rw [← hl4]; exact HL.out.1
    have HY4 := Lib.hid hy4
    have HX2e := Lib.hid (HX2z.out.below hb HX2z.out.lt)
    have HYxe := Lib.hid (HYxz.out.below hb)
    have HZ4 := Lib.hid (HZz.out.below hb HZz.out.lt)
    have HGe := Lib.hid (HGz.out.trans (hb.mono HGz.out.size))
    have HS4 := Lib.hid (HSz.out.trans (hb.mono HSz.out.size))
    refine hK.out _ _ HS4.out ?_
    clear hK K' hb hy4 hl4
    refine hs_take (i := 9) (v := ?_) rfl rfl (by kernel_rfl) (by kernel_rfl) (by kernel_rfl) (fun _ _ _ h => h) (by rfl) HS4.out ?_ ?_
    rotate_left
    · intro W' hW'
      go_simp
      try with_reducible rfl
    simp only [Act.put, List.setIfInBounds_toArray, List.set_cons_zero, List.set_cons_succ]
    refine hs_take (i := 10) (v := ?_) rfl rfl (by kernel_rfl) (by kernel_rfl) (by kernel_rfl) (fun _ _ _ h => h) (by rfl) HS4.out ?_ ?_
    rotate_left
    · intro W' hW'
      go_simp
      try with_reducible rfl
    simp only [Act.put, List.setIfInBounds_toArray, List.set_cons_zero, List.set_cons_succ]
    refine hs_take (i := 11) (v := ?_) rfl rfl (by kernel_rfl) (by kernel_rfl) (by kernel_rfl) (fun _ _ _ h => h) (by rfl) HS4.out ?_ ?_
    rotate_left
    · intro W' hW'
      go_simp
      try with_reducible rfl
    simp only [Act.put, List.setIfInBounds_toArray, List.set_cons_zero, List.set_cons_succ]
    refine hs_take (i := 12) (v := ?_) rfl rfl (by kernel_rfl) (by kernel_rfl) (by kernel_rfl) (fun _ _ _ h => h) (by rfl) HS4.out ?_ ?_
    rotate_left
    · intro W' hW'
      go_simp
      try with_reducible rfl
    simp only [Act.put, List.setIfInBounds_toArray, List.set_cons_zero, List.set_cons_succ]
    have q0 := HZ4.out.cell 0
    have q1 := HZ4.out.cell 1
    have f0 := HZ4.out.free 0
    have f1 := HZ4.out.free 1
    simp only [List.getElem?_cons_succ, List.getElem?_cons_zero] at q0 q1
    have hS5 := (HS4.out.setCell (p := ⟨w3.heap.size + 1, 0, none⟩) (by simp) (.int .i64 (p : Int))).setCell (p := ⟨w3.heap.size + 1, 1, none⟩) (by simp) (.slice A4 n4 c4)
    have HYb := Lib.hid (HY4.out.setTwo (.int .i64 (p : Int)) (.slice A4 n4 c4) _ _ q0 q1 (fun z e => by cases e) (fun z e => by cases e))
    have HYa := Lib.hid (HYxe.out.setTwo (.int .i64 (p : Int)) (.slice A4 n4 c4) _ _ q0 q1 (fun z e => by cases e) (fun z e => by cases e))
    refine hs_call (i := 14) (by kernel_rfl) rfl (fun K' hK => ?_)
    go_simp
    refine hK.out _ _ hS5 ?_
    clear hK K' q0 q1 f0 f1
    refine hs_take (i := 15) (v := ?_) rfl rfl (by kernel_rfl) (by kernel_rfl) (by kernel_rfl) (fun _ _ _ h => h) (by rfl) hS5 ?_ ?_
    rotate_left
    · intro W' hW'
      go_simp
      try with_reducible rfl
    simp only [Act.put, List.setIfInBounds_toArray, List.set_cons_zero, List.set_cons_succ]
    refine hs_take (i := 16) (v := ?_) rfl rfl (by kernel_rfl) (by kernel_rfl) (by kernel_rfl) (fun _ _ _ h => h) (by rfl) hS5 ?_ ?_
    rotate_left
    · intro W' hW'
      go_simp
      try with_reducible rfl
    simp only [Act.put, List.setIfInBounds_toArray, List.set_cons_zero, List.set_cons_succ]
    refine wpAnyH_done (by kernel_rfl) ?_ _
    have HX2f := (HX2e.out.far_set 0 (.int .i64 (p : Int)) HNE.out.2).far_set 1 (.slice A4 n4 c4) HNE.out.2
    have HX4f := (HZ4.out.set_ 0 (.int .i64 (p : Int))).set_ 1 (.slice A4 n4 c4)
    have u2 := HX2f.cell 0
    have v2 := HX2f.cell 1
    have u4 := HX4f.cell 0
    have v4 := HX4f.cell 1
    simp only [List.set_cons_zero, List.set_cons_succ, List.getElem?_cons_succ, List.getElem?_cons_zero] at u2 v2 u4 v4
    have HGf := Lib.hid ((HGe.out.setCell (p := ⟨w3.heap.size + 1, 0, none⟩) HNE.out.1 (.int .i64 (p : Int))).setCell (p := ⟨w3.heap.size + 1, 1, none⟩) HNE.out.1 (.slice A4 n4 c4))
    clear hS5 HX2f HX4f
    go_wp2_with fail
    refine (same_any (p : Int) A2 A4 n4 c2 n4 c4 L1 _ HYa.out HYb.out).mono ?_
    rintro e w5 ⟨rfl, hb⟩
    have HGg := Lib.hid (HGf.out.trans (hb.mono HGf.out.size))
    clear hb
    go_wp2_with fail
    refine (awake7_any _).mono ?_
    rintro e w6 ⟨rfl, hb⟩
    have HGh := Lib.hid (HGg.out.trans (hb.mono HGg.out.size))
    clear hb
    go_wp2
    go_ret
    exact ⟨rfl, HGh.out⟩
set_option maxHeartbeats 8000000 in
theorem parts_w2 (x : Int) (A : Option Addr) (B : Addr) (n c m d a : Nat) (zs bs : List Int) (w : World) (hA : Nums w A n zs) (hB : Bytes w (some B) m bs) (hd : m ≤ d) (hdm : d ≤ 9223372036854775807) (ha : a ≤ 255) (hbu : m ≤ 255) (h200 : m ≤ 200) (hmd : m < d) :
    Calls Try.prog 7 #[.int .i64 x, .slice A n c, .int .u8 (a : Int), .slice (some B) m d, .int .u8 (m : Int)] w fun e w' => e = .returned (.bool true) ∧ Below w.heap.size w w' := by
  have h1 : ¬ (200 : Int) < (m : Int) := by omega
  have hmin : min (m : Int) (m : Int) = (m : Int) := by omega
  have hLow : Bytes w (some (B.add m)) (0) (bs.drop m) := (by have h := hB.drop (cap := d) m (Nat.le_refl _) hd; rw [if_neg (by omega), Nat.sub_self] at h; exact h)
  obtain ⟨ak, hak⟩ : ∃ ak, a + m = ak := ⟨_, rfl⟩
  have hakI : (a : Int) + (m : Int) = (ak : Int) := by omega
  have hdn : doneN (m : Int) m = m := by unfold doneN; rw [if_pos (by omega)]
  have hlf : leftB (m : Int) m = 0 := by unfold leftB; rw [if_neg (by omega)]; rw [if_pos (by omega)]; omega
  have hpw : powE6 (m : Int) m = 0 := by unfold powE6; rw [if_pos (by omega)]
  have hd1 : ∀ j, doneN (-1) j = j := fun j => by unfold doneN; rw [if_pos (by omega)]
  have hl1 : ∀ j, leftB (-1) j = -1 := fun j => by unfold leftB; rw [if_pos (by omega)]
  have hp1 : ∀ j, powE6 (-1) j = 0 := fun j => by unfold powE6; rw [if_pos (by omega)]
  have hfm : ∀ p : Nat, 512 ≤ p → a + m ≤ p ∧ ak + (0) ≤ p := fun p h => by omega
  have hsum : m + (0) = m := by omega
  have e1 := fun (p n1 c1 : Nat) A1 Z w' (h : Bytes w' A1 n1 Z) (h' : Bytes w' (some B) m bs) hc1 hm1 => prgE_all (p : Int) A1 (some B) n1 c1 m d Z bs 0 (a : Int) (-1) w' h h' hc1 hm1 hd hdm (by decide)
  have e2 := fun (p n1 c1 : Nat) A1 Z w' (h : Bytes w' A1 n1 Z) (h' : Bytes w' (some B) m bs) hc1 hm1 => prgE_all (p : Int) A1 (some B) n1 c1 m d Z bs 0 (a : Int) (m : Int) w' h h' hc1 hm1 hd hdm (by omega)
  have e3 := fun (p n1 c1 : Nat) A1 Z w' (h : Bytes w' A1 n1 Z) (h' : Bytes w' (some (B.add m)) (0) (bs.drop m)) hc1 hm1 => prgE_all (p : Int) A1 (some (B.add m)) n1 c1 (0) (d - m) Z (bs.drop m) 0 (ak : Int) (-1) w' h h' hc1 hm1 (by omega) (by omega) (by decide)
  unfold GivesP at e1 e2 e3
  simp only [hd1, hl1, hp1, hdn, hlf, hpw] at e1 e2 e3
  have V1 := Lib.hid (wrap_nat a (by omega))
  have V2 := Lib.hid (iwrap_nat a (by omega))
  have V3 := Lib.hid (wrap_nat m (by omega))
  have V4 := Lib.hid (iwrap_nat m (by omega))
  have V5 := Lib.hid (wrap_nat ak (by omega))
  have V6 := Lib.hid (iwrap_nat ak (by omega))
  have HA := Lib.hid hA
  have HBB := Lib.hid hB
  have HLow := Lib.hid hLow
  have HFM := Lib.hid hfm
  have HAK := Lib.hid (And.intro hak hsum)
  have T1 := Lib.hid e1
  have T2 := Lib.hid e2
  have T3 := Lib.hid e3
  have s1 : ¬ d = m := by omega
  have s2 : ¬ d - m = 0 := by omega
  have s4 : (m : Int) ≤ (d : Int) := by omega
  clear hA hB hLow hd hdm ha hbu h200 hdn hlf hpw hd1 hl1 hp1 hfm e1 e2 e3 hak hsum hmd
  have ww1 := V1.out
  have ww2 := V2.out
  have ww3 := V3.out
  have ww4 := V4.out
  have ww5 := V5.out
  have ww6 := V6.out
  go_enter Try.func7, Try.ntmps7
  go_wp2_with fail
  refine (made_any x A n c zs _ HA.out).mono ?_
  rintro e w1 ⟨p, k, c1, A1, Z, rfl, hp, hk1, hk4, hy, hc1, hm1, hb⟩
  clear ww1 ww2 ww3 ww4 ww5 ww6
  obtain ⟨n1, hn1⟩ : ∃ n1, p * k = n1 := ⟨_, rfl⟩
  have hq0 : 512 ≤ p := by omega
  have hq1 : p ≤ 8192 := by omega
  have hpk : n1 % p = 0 := by rw [← hn1]; exact Nat.mul_mod_right _ _
  have hpd : n1 / p ≤ 8 := by rw [← hn1, Nat.mul_div_cancel_left _ (by omega)]; omega
  have hpos : 0 < n1 := by rw [← hn1]; exact Nat.mul_pos (by omega) hk1
  rw [hn1] at hy hc1
  rw [hn1]
  have hE1 : areE (p : Int) n1 0 (a : Int) (m : Int) = 0 := areE_in hq0 hq1 hpk hpos hpd (HFM.out p hq0).1
  have hE2 : areE (p : Int) n1 0 (ak : Int) ((0 : Nat) : Int) = 0 := areE_in hq0 hq1 hpk hpos hpd (HFM.out p hq0).2
  have hf1 : fromE (p : Int) 0 (a : Int) = a := by unfold fromE; omega
  have hf2 : fromE (p : Int) 0 (ak : Int) = ak := by unfold fromE; omega
  have e1 := fun w' (h : Bytes w' A1 n1 Z) h' => T1.out p n1 c1 A1 Z w' h h' hc1 hm1
  have e2 := fun w' (h : Bytes w' A1 n1 Z) h' => T2.out p n1 c1 A1 Z w' h h' hc1 hm1
  have e3 := fun A4 c4 w' (h : Bytes w' A4 n1 (chgL Z a (prgG bs) m)) h' hc4 hm4 => T3.out p n1 c4 A4 (chgL Z a (prgG bs) m) w' h h' hc4 hm4
  have hj := parts_join Z bs a (m) (0)
  rw [HAK.out.1, HAK.out.2] at hj
  simp only [hE1, hE2, hf1, hf2, hj, ifE_ok] at e1 e2 e3
  have hl1 : (chgL Z a (prgG bs) m).length = n1 := by rw [chgL_len]; exact hy.len
  have hl2 : (chgL Z a (prgG bs) m).length = n1 := by rw [chgL_len]; exact hy.len
  generalize chgL Z a (prgG bs) m = L1 at *
  have D1 := Lib.hid e1
  have D2 := Lib.hid e2
  have D3 := Lib.hid e3
  have HL := Lib.hid (And.intro hl1 hl2)
  have HBw := Lib.hid hb
  have HG0 := Lib.hid (Below.refl w.heap.size w)
  clear e1 e2 e3 hj hE1 hE2 hf1 hf2 hpk hpd hpos hn1 hp hk1 hk4 hc1 hm1 hq0 hq1 hl1 hl2
  have hbx := (Below.refl w1.heap.size w1).alloc (Nat.le_refl _) (.cells #[.int .i64 (p : Int), .slice A1 n1 c1] 24)
  have hbb := hb.trans (hbx.mono hb.size)
  have HY1 := Lib.hid (hy.below hbx)
  have HQ1 := Lib.hid hbb
  have HG1 := Lib.hid (HG0.out.trans (hbb.mono HG0.out.size))
  have HX1 := Lib.hid (Cs.new w1 24 [.int .i64 (p : Int), .slice A1 n1 c1])
  clear hb hbx hy hbb
  have ww1 := V1.out
  have ww2 := V2.out
  have ww3 := V3.out
  have ww4 := V4.out
  have ww5 := V5.out
  have ww6 := V6.out
  have HBB1 := Lib.hid (HBB.out.below HQ1.out)
  have u1 := HX1.out.cell 0
  have v1 := HX1.out.cell 1
  simp only [List.getElem?_cons_succ, List.getElem?_cons_zero] at u1 v1
  go_wp2_with fail
  refine (D1.out _ HY1.out HBB1.out).mono ?_
  rintro e w2 ⟨A2, n2, c2, rfl, hy, hk2, hm2, hb⟩
  obtain rfl : n2 = n1 := by rw [← hy.len]; exact HL.out.1
  have hbx := (Below.refl w2.heap.size w2).alloc (Nat.le_refl _) (.cells #[.int .i64 (p : Int), .slice A2 n2 c2] 24)
  have hbb := hb.trans (hbx.mono hb.size)
  have HY2 := Lib.hid (hy.below hbx)
  have HQ2 := Lib.hid hbb
  have HG2 := Lib.hid (HG1.out.trans (hbb.mono HG1.out.size))
  have HX2 := Lib.hid (Cs.new w2 24 [.int .i64 (p : Int), .slice A2 n2 c2])
  have hHX1 := (HX1.out.below hb HX1.out.lt).grow (.cells #[.int .i64 (p : Int), .slice A2 n2 c2] 24)
  clear hb hbx hy hbb
  clear HX1
  have HX1 := Lib.hid hHX1
  clear hHX1
  have HYf := Lib.hid (HY1.out.below HQ2.out)
  have HBB2 := Lib.hid (HBB1.out.below HQ2.out)
  clear u1 v1
  have u1 := HX1.out.cell 0
  have v1 := HX1.out.cell 1
  simp only [List.getElem?_cons_succ, List.getElem?_cons_zero] at u1 v1
  have u2 := HX2.out.cell 0
  have v2 := HX2.out.cell 1
  simp only [List.getElem?_cons_succ, List.getElem?_cons_zero] at u2 v2
  go_wp2_with fail
  refine (D2.out _ HYf.out HBB2.out).mono ?_
  rintro e w3 ⟨A3, n3, c3, rfl, hy, hk3, hm3, hb⟩
  obtain rfl : n3 = n2 := by rw [← hy.len]; exact HL.out.2
  have hbx := (Below.refl w3.heap.size w3).alloc (Nat.le_refl _) (.cells #[.int .i64 (p : Int), .slice A3 n3 c3] 24)
  have hbb := hb.trans (hbx.mono hb.size)
  have HY3 := Lib.hid (hy.below hbx)
  have HQ3 := Lib.hid hbb
  have HG3 := Lib.hid (HG2.out.trans (hbb.mono HG2.out.size))
  have HX3 := Lib.hid (Cs.new w3 24 [.int .i64 (p : Int), .slice A3 n3 c3])
  have hHX1 := (HX1.out.below hb HX1.out.lt).grow (.cells #[.int .i64 (p : Int), .slice A3 n3 c3] 24)
  have hHX2 := (HX2.out.below hb HX2.out.lt).grow (.cells #[.int .i64 (p : Int), .slice A3 n3 c3] 24)
  clear hb hbx hy hbb
  clear HX1
  have HX1 := Lib.hid hHX1
  clear hHX1
  clear HX2
  have HX2 := Lib.hid hHX2
  clear hHX2
  have HLow3 := Lib.hid (HLow.out.below HG3.out)
  clear u1 v1 u2 v2
  have u1 := HX1.out.cell 0
  have v1 := HX1.out.cell 1
  simp only [List.getElem?_cons_succ, List.getElem?_cons_zero] at u1 v1
  have u2 := HX2.out.cell 0
  have v2 := HX2.out.cell 1
  simp only [List.getElem?_cons_succ, List.getElem?_cons_zero] at u2 v2
  have u3 := HX3.out.cell 0
  have v3 := HX3.out.cell 1
  simp only [List.getElem?_cons_succ, List.getElem?_cons_zero] at u3 v3
  have HLd := Lib.hid (HLow3.out.below (Below.refl _ _).drew)
  have HYd := Lib.hid (HY3.out.below (Below.refl _ _).drew)
  have HX2d := Lib.hid HX2.out.drew
  have HYx := Lib.hid (((HY2.out.below HQ3.out)).below (Below.refl _ _).drew)
  have HGd := Lib.hid HG3.out.drew
  have HX3d := Lib.hid HX3.out.drew
  clear u1 v1 u2 v2 u3 v3
  go_wp2_with fail
  refine held_begin (by kernel_rfl) ?_
  refine held_take (i := 0) (v := ?_) rfl rfl (by kernel_rfl) (by kernel_rfl) (by kernel_rfl) (fun _ _ _ h => h) (by rfl) ?_ ?_
  rotate_left
  · intro W hW
    have z0 := (HX3d.out.below hW HX3d.out.lt).cell 0
    have y0 := (HX3d.out.below hW HX3d.out.lt).cell 1
    simp only [List.getElem?_cons_succ, List.getElem?_cons_zero] at z0 y0
    go_simp
    try with_reducible rfl
  simp only [Act.put, List.setIfInBounds_toArray, List.set_cons_zero, List.set_cons_succ]
  refine held_take (i := 1) (v := ?_) rfl rfl (by kernel_rfl) (by kernel_rfl) (by kernel_rfl) (fun _ _ _ h => h) (by rfl) ?_ ?_
  rotate_left
  · intro W hW
    go_simp
    try with_reducible rfl
  simp only [Act.put, List.setIfInBounds_toArray, List.set_cons_zero, List.set_cons_succ]
  refine held_take (i := 2) (v := ?_) rfl rfl (by kernel_rfl) (by kernel_rfl) (by kernel_rfl) (fun _ _ _ h => h) (by rfl) ?_ ?_
  rotate_left
  · intro W hW
    go_simp
    try with_reducible rfl
  simp only [Act.put, List.setIfInBounds_toArray, List.set_cons_zero, List.set_cons_succ]
  refine held_take (i := 3) (v := ?_) rfl rfl (by kernel_rfl) (by kernel_rfl) (by kernel_rfl) (fun _ _ _ h => h) (by rfl) ?_ ?_
  rotate_left
  · intro W hW
    go_simp
    try with_reducible rfl
  simp only [Act.put, List.setIfInBounds_toArray, List.set_cons_zero, List.set_cons_succ]
  refine held_take (i := 4) (v := ?_) rfl rfl (by kernel_rfl) (by kernel_rfl) (by kernel_rfl) (fun _ _ _ h => h) (by rfl) ?_ ?_
  rotate_left
  · intro W hW
    go_simp
    try with_reducible rfl
  simp only [Act.put, List.setIfInBounds_toArray, List.set_cons_zero, List.set_cons_succ]
  refine held_take (i := 5) (v := ?_) rfl rfl (by kernel_rfl) (by kernel_rfl) (by kernel_rfl) (fun _ _ _ h => h) (by rfl) ?_ ?_
  rotate_left
  · intro W hW
    go_simp
    try with_reducible rfl
  simp only [Act.put, List.setIfInBounds_toArray, List.set_cons_zero, List.set_cons_succ]
  refine held_take (i := 6) (v := ?_) rfl rfl (by kernel_rfl) (by kernel_rfl) (by kernel_rfl) (fun _ _ _ h => h) (by rfl) ?_ ?_
  rotate_left
  · intro W hW
    go_simp
    try with_reducible rfl
  simp only [Act.put, List.setIfInBounds_toArray, List.set_cons_zero, List.set_cons_succ]
  refine held_take (i := 7) (v := ?_) rfl rfl (by kernel_rfl) (by kernel_rfl) (by kernel_rfl) (fun _ _ _ h => h) (by rfl) ?_ ?_
  rotate_left
  · intro W hW
    go_simp
    try with_reducible rfl
  simp only [Act.put, List.setIfInBounds_toArray, List.set_cons_zero, List.set_cons_succ]
  refine hs_two (i := 8) (j := 13) (by kernel_rfl) rfl rfl ?_ ?_
  · intro K' hK
    go_simp
    refine (D3.out _ _ _ HYd.out HLd.out hk3 hm3).mono ?_
    rintro e w4 ⟨A4, n4, c4, rfl, hy4, _, _, hb⟩
    have hl4 := hy4.len
    obtain rfl : n4 = n3 := by rw [← hl4]; exact HL.out.1
    have HY4 := Lib.hid hy4
    have HX2e := Lib.hid (HX2d.out.below hb HX2d.out.lt)
    have HYxe := Lib.hid (HYx.out.below hb)
    have HGe := Lib.hid (HGd.out.trans (hb.mono HGd.out.size))
    refine hK.out _ _ hb ?_
    clear hK K'
    refine held_from (fun W h => hb.trans (h.mono hb.size)) ?_
    clear hb hy4 hl4
    refine held_take (i := 9) (v := ?_) rfl rfl (by kernel_rfl) (by kernel_rfl) (by kernel_rfl) (fun _ _ _ h => h) (by rfl) ?_ ?_
    rotate_left
    · intro W hW
      go_simp
      try with_reducible rfl
    simp only [Act.put, List.setIfInBounds_toArray, List.set_cons_zero, List.set_cons_succ]
    refine held_take (i := 10) (v := ?_) rfl rfl (by kernel_rfl) (by kernel_rfl) (by kernel_rfl) (fun _ _ _ h => h) (by rfl) ?_ ?_
    rotate_left
    · intro W hW
      go_simp
      try with_reducible rfl
    simp only [Act.put, List.setIfInBounds_toArray, List.set_cons_zero, List.set_cons_succ]
    refine held_take (i := 11) (v := ?_) rfl rfl (by kernel_rfl) (by kernel_rfl) (by kernel_rfl) (fun _ _ _ h => h) (by rfl) ?_ ?_
    rotate_left
    · intro W hW
      go_simp
      try with_reducible rfl
    simp only [Act.put, List.setIfInBounds_toArray, List.set_cons_zero, List.set_cons_succ]
    refine held_take (i := 12) (v := ?_) rfl rfl (by kernel_rfl) (by kernel_rfl) (by kernel_rfl) (fun _ _ _ h => h) (by rfl) ?_ ?_
    rotate_left
    · intro W hW
      go_simp
      try with_reducible rfl
    simp only [Act.put, List.setIfInBounds_toArray, List.set_cons_zero, List.set_cons_succ]
    have hS := (Below.refl w4.heap.size w4).alloc (Nat.le_refl _) (.cells #[.int .i64 0, .slice none 0 0] 24)
    refine hs_call (i := 13) (by kernel_rfl) rfl (fun K' hK => ?_)
    go_simp
    refine hK.out _ _ hS ?_
    clear hK K'
    have hq := Cs.new w4 24 [.int .i64 0, .slice none 0 0]
    have q0 := hq.cell 0
    have q1 := hq.cell 1
    have f0 := hq.free 0
    have f1 := hq.free 1
    simp only [List.getElem?_cons_succ, List.getElem?_cons_zero] at q0 q1
    refine hs_call (i := 14) (by kernel_rfl) rfl (fun K' hK => ?_)
    go_simp
    have hS4 := (Below.refl w4.heap.size w4).alloc (Nat.le_refl _) (.cells #[.int .i64 (p : Int), .slice A4 n4 c4] 24)
    refine hK.out _ _ hS4 ?_
    clear hK K' q0 q1 f0 f1 hS hq
    refine hs_take (i := 15) (v := ?_) rfl rfl (by kernel_rfl) (by kernel_rfl) (by kernel_rfl) (fun _ _ _ h => h) (by rfl) hS4 ?_ ?_
    rotate_left
    · intro W' hW'
      go_simp
      try with_reducible rfl
    simp only [Act.put, List.setIfInBounds_toArray, List.set_cons_zero, List.set_cons_succ]
    refine hs_take (i := 16) (v := ?_) rfl rfl (by kernel_rfl) (by kernel_rfl) (by kernel_rfl) (fun _ _ _ h => h) (by rfl) hS4 ?_ ?_
    rotate_left
    · intro W' hW'
      go_simp
      try with_reducible rfl
    simp only [Act.put, List.setIfInBounds_toArray, List.set_cons_zero, List.set_cons_succ]
    refine wpAnyH_done (by kernel_rfl) ?_ _
    have HX2f := HX2e.out.grow (.cells #[.int .i64 (p : Int), .slice A4 n4 c4] 24)
    have HX4f := Cs.new w4 24 [.int .i64 (p : Int), .slice A4 n4 c4]
    have u2 := HX2f.cell 0
    have v2 := HX2f.cell 1
    have u4 := HX4f.cell 0
    have v4 := HX4f.cell 1
    simp only [List.getElem?_cons_succ, List.getElem?_cons_zero] at u2 v2 u4 v4
    have HYa := Lib.hid (HYxe.out.below hS4)
    have HYb := Lib.hid (HY4.out.below hS4)
    have HGf := Lib.hid (HGe.out.trans (hS4.mono HGe.out.size))
    clear hS4 HX2f HX4f
    go_wp2_with fail
    refine (same_any (p : Int) A2 A4 n4 c2 n4 c4 L1 _ HYa.out HYb.out).mono ?_
    rintro e w5 ⟨rfl, hb⟩
    have HGg := Lib.hid (HGf.out.trans (hb.mono HGf.out.size))
    clear hb
    go_wp2_with fail
    refine (awake7_any _).mono ?_
    rintro e w6 ⟨rfl, hb⟩
    have HGh := Lib.hid (HGg.out.trans (hb.mono HGg.out.size))
    clear hb
    go_wp2
    go_ret
    exact ⟨rfl, HGh.out⟩
  · intro K' hK
    go_simp
    have hS : Below (w3.alloc (.cells #[.int .i64 (p : Int), .slice A3 n3 c3] 24)).drew.heap.size (w3.alloc (.cells #[.int .i64 (p : Int), .slice A3 n3 c3] 24)).drew ((w3.alloc (.cells #[.int .i64 (p : Int), .slice A3 n3 c3] 24)).alloc (.cells #[.int .i64 0, .slice none 0 0] 24)).drew := (Below.refl _ (w3.alloc (.cells #[.int .i64 (p : Int), .slice A3 n3 c3] 24)).drew).alloc (Nat.le_refl _) (.cells #[.int .i64 0, .slice none 0 0] 24)
    have HYz := Lib.hid (HYd.out.below hS)
    have HLz := Lib.hid (HLd.out.below hS)
    have HYxz := Lib.hid (HYx.out.below hS)
    have HX2z := Lib.hid (HX2d.out.below hS HX2d.out.lt)
    have HZz := Lib.hid ((Cs.new2 w3 (.cells #[.int .i64 (p : Int), .slice A3 n3 c3] 24) 24 [.int .i64 0, .slice none 0 0]).drew)
    have HGz := Lib.hid (HGd.out.trans (hS.mono HGd.out.size))
    have HSz := Lib.hid hS
    have hbw : w.heap.size ≤ w3.heap.size + 1 := by have h9 := HGd.out.size; simpa using h9
    have hne : w2.heap.size ≠ w3.heap.size + 1 := by have h9 := HX2d.out.lt; simp at h9; omega
    have HNE := Lib.hid (And.intro hbw hne)
    refine hK.out _ _ hS ?_
    clear hK K' hS hbw hne
    refine hs_call (i := 8) (by kernel_rfl) rfl (fun K' hK => ?_)
    go_simp
    refine (D3.out _ _ _ HYz.out HLz.out hk3 hm3).mono ?_
    rintro e w4 ⟨A4, n4, c4, rfl, hy4, _, _, hb⟩
    have hl4 := hy4.len
    obtain rfl : n4 = n3 := by rw [← hl4]; exact HL.out.1
    have HY4 := Lib.hid hy4
    have HX2e := Lib.hid (HX2z.out.below hb HX2z.out.lt)
    have HYxe := Lib.hid (HYxz.out.below hb)
    have HZ4 := Lib.hid (HZz.out.below hb HZz.out.lt)
    have HGe := Lib.hid (HGz.out.trans (hb.mono HGz.out.size))
    have HS4 := Lib.hid (HSz.out.trans (hb.mono HSz.out.size))
    refine hK.out _ _ HS4.out ?_
    clear hK K' hb hy4 hl4
    refine hs_take (i := 9) (v := ?_) rfl rfl (by kernel_rfl) (by kernel_rfl) (by kernel_rfl) (fun _ _ _ h => h) (by rfl) HS4.out ?_ ?_
    rotate_left
    · intro W' hW'
      go_simp
      try with_reducible rfl
    simp only [Act.put, List.setIfInBounds_toArray, List.set_cons_zero, List.set_cons_succ]
    refine hs_take (i := 10) (v := ?_) rfl rfl (by kernel_rfl) (by kernel_rfl) (by kernel_rfl) (fun _ _ _ h => h) (by rfl) HS4.out ?_ ?_
    rotate_left
    · intro W' hW'
      go_simp
      try with_reducible rfl
    simp only [Act.put, List.setIfInBounds_toArray, List.set_cons_zero, List.set_cons_succ]
    refine hs_take (i := 11) (v := ?_) rfl rfl (by kernel_rfl) (by kernel_rfl) (by kernel_rfl) (fun _ _ _ h => h) (by rfl) HS4.out ?_ ?_
    rotate_left
    · intro W' hW'
      go_simp
      try with_reducible rfl
    simp only [Act.put, List.setIfInBounds_toArray, List.set_cons_zero, List.set_cons_succ]
    refine hs_take (i := 12) (v := ?_) rfl rfl (by kernel_rfl) (by kernel_rfl) (by kernel_rfl) (fun _ _ _ h => h) (by rfl) HS4.out ?_ ?_
    rotate_left
    · intro W' hW'
      go_simp
      try with_reducible rfl
    simp only [Act.put, List.setIfInBounds_toArray, List.set_cons_zero, List.set_cons_succ]
    have q0 := HZ4.out.cell 0
    have q1 := HZ4.out.cell 1
    have f0 := HZ4.out.free 0
    have f1 := HZ4.out.free 1
    simp only [List.getElem?_cons_succ, List.getElem?_cons_zero] at q0 q1
    have hS5 := (HS4.out.setCell (p := ⟨w3.heap.size + 1, 0, none⟩) (by simp) (.int .i64 (p : Int))).setCell (p := ⟨w3.heap.size + 1, 1, none⟩) (by simp) (.slice A4 n4 c4)
    have HYb := Lib.hid (HY4.out.setTwo (.int .i64 (p : Int)) (.slice A4 n4 c4) _ _ q0 q1 (fun z e => by cases e) (fun z e => by cases e))
    have HYa := Lib.hid (HYxe.out.setTwo (.int .i64 (p : Int)) (.slice A4 n4 c4) _ _ q0 q1 (fun z e => by cases e) (fun z e => by cases e))
    refine hs_call (i := 14) (by kernel_rfl) rfl (fun K' hK => ?_)
    go_simp
    refine hK.out _ _ hS5 ?_
    clear hK K' q0 q1 f0 f1
    refine hs_take (i := 15) (v := ?_) rfl rfl (by kernel_rfl) (by kernel_rfl) (by kernel_rfl) (fun _ _ _ h => h) (by rfl) hS5 ?_ ?_
    rotate_left
    · intro W' hW'
      go_simp
      try with_reducible rfl
    simp only [Act.put, List.setIfInBounds_toArray, List.set_cons_zero, List.set_cons_succ]
    refine hs_take (i := 16) (v := ?_) rfl rfl (by kernel_rfl) (by kernel_rfl) (by kernel_rfl) (fun _ _ _ h => h) (by rfl) hS5 ?_ ?_
    rotate_left
    · intro W' hW'
      go_simp
      try with_reducible rfl
    simp only [Act.put, List.setIfInBounds_toArray, List.set_cons_zero, List.set_cons_succ]
    refine wpAnyH_done (by kernel_rfl) ?_ _
    have HX2f := (HX2e.out.far_set 0 (.int .i64 (p : Int)) HNE.out.2).far_set 1 (.slice A4 n4 c4) HNE.out.2
    have HX4f := (HZ4.out.set_ 0 (.int .i64 (p : Int))).set_ 1 (.slice A4 n4 c4)
    have u2 := HX2f.cell 0
    have v2 := HX2f.cell 1
    have u4 := HX4f.cell 0
    have v4 := HX4f.cell 1
    simp only [List.set_cons_zero, List.set_cons_succ, List.getElem?_cons_succ, List.getElem?_cons_zero] at u2 v2 u4 v4
    have HGf := Lib.hid ((HGe.out.setCell (p := ⟨w3.heap.size + 1, 0, none⟩) HNE.out.1 (.int .i64 (p : Int))).setCell (p := ⟨w3.heap.size + 1, 1, none⟩) HNE.out.1 (.slice A4 n4 c4))
    clear hS5 HX2f HX4f
    go_wp2_with fail
    refine (same_any (p : Int) A2 A4 n4 c2 n4 c4 L1 _ HYa.out HYb.out).mono ?_
    rintro e w5 ⟨rfl, hb⟩
    have HGg := Lib.hid (HGf.out.trans (hb.mono HGf.out.size))
    clear hb
    go_wp2_with fail
    refine (awake7_any _).mono ?_
    rintro e w6 ⟨rfl, hb⟩
    have HGh := Lib.hid (HGg.out.trans (hb.mono HGg.out.size))
    clear hb
    go_wp2
    go_ret
    exact ⟨rfl, HGh.out⟩
set_option maxHeartbeats 8000000 in
theorem parts_w3 (x : Int) (A : Option Addr) (B : Addr) (n c m a : Nat) (zs bs : List Int) (w : World) (hA : Nums w A n zs) (hB : Bytes w (some B) m bs) (hd : m ≤ m) (hdm : m ≤ 9223372036854775807) (ha : a ≤ 255) (hbu : m ≤ 255) (h200 : m ≤ 200)  :
    Calls Try.prog 7 #[.int .i64 x, .slice A n c, .int .u8 (a : Int), .slice (some B) m m, .int .u8 (m : Int)] w fun e w' => e = .returned (.bool true) ∧ Below w.heap.size w w' := by
  have h1 : ¬ (200 : Int) < (m : Int) := by omega
  have hmin : min (m : Int) (m : Int) = (m : Int) := by omega
  have hLow : Bytes w (some B) (0) (bs.drop m) := (by rw [List.drop_of_length_le (by rw [hB.len]; exact Nat.le_refl _)]; exact hB.take 0 (Nat.zero_le _))
  obtain ⟨ak, hak⟩ : ∃ ak, a + m = ak := ⟨_, rfl⟩
  have hakI : (a : Int) + (m : Int) = (ak : Int) := by omega
  have hdn : doneN (m : Int) m = m := by unfold doneN; rw [if_pos (by omega)]
  have hlf : leftB (m : Int) m = 0 := by unfold leftB; rw [if_neg (by omega)]; rw [if_pos (by omega)]; omega
  have hpw : powE6 (m : Int) m = 0 := by unfold powE6; rw [if_pos (by omega)]
  have hd1 : ∀ j, doneN (-1) j = j := fun j => by unfold doneN; rw [if_pos (by omega)]
  have hl1 : ∀ j, leftB (-1) j = -1 := fun j => by unfold leftB; rw [if_pos (by omega)]
  have hp1 : ∀ j, powE6 (-1) j = 0 := fun j => by unfold powE6; rw [if_pos (by omega)]
  have hfm : ∀ p : Nat, 512 ≤ p → a + m ≤ p ∧ ak + (0) ≤ p := fun p h => by omega
  have hsum : m + (0) = m := by omega
  have e1 := fun (p n1 c1 : Nat) A1 Z w' (h : Bytes w' A1 n1 Z) (h' : Bytes w' (some B) m bs) hc1 hm1 => prgE_all (p : Int) A1 (some B) n1 c1 m m Z bs 0 (a : Int) (-1) w' h h' hc1 hm1 hd hdm (by decide)
  have e2 := fun (p n1 c1 : Nat) A1 Z w' (h : Bytes w' A1 n1 Z) (h' : Bytes w' (some B) m bs) hc1 hm1 => prgE_all (p : Int) A1 (some B) n1 c1 m m Z bs 0 (a : Int) (m : Int) w' h h' hc1 hm1 hd hdm (by omega)
  have e3 := fun (p n1 c1 : Nat) A1 Z w' (h : Bytes w' A1 n1 Z) (h' : Bytes w' (some B) (0) (bs.drop m)) hc1 hm1 => prgE_all (p : Int) A1 (some B) n1 c1 (0) (0) Z (bs.drop m) 0 (ak : Int) (-1) w' h h' hc1 hm1 (by omega) (by omega) (by decide)
  unfold GivesP at e1 e2 e3
  simp only [hd1, hl1, hp1, hdn, hlf, hpw] at e1 e2 e3
  have V1 := Lib.hid (wrap_nat a (by omega))
  have V2 := Lib.hid (iwrap_nat a (by omega))
  have V3 := Lib.hid (wrap_nat m (by omega))
  have V4 := Lib.hid (iwrap_nat m (by omega))
  have V5 := Lib.hid (wrap_nat ak (by omega))
  have V6 := Lib.hid (iwrap_nat ak (by omega))
  have HA := Lib.hid hA
  have HBB := Lib.hid hB
  have HLow := Lib.hid hLow
  have HFM := Lib.hid hfm
  have HAK := Lib.hid (And.intro hak hsum)
  have T1 := Lib.hid e1
  have T2 := Lib.hid e2
  have T3 := Lib.hid e3
  clear hA hB hLow hd hdm ha hbu h200 hdn hlf hpw hd1 hl1 hp1 hfm e1 e2 e3 hak hsum
  have ww1 := V1.out
  have ww2 := V2.out
  have ww3 := V3.out
  have ww4 := V4.out
  have ww5 := V5.out
  have ww6 := V6.out
  go_enter Try.func7, Try.ntmps7
  go_wp2_with fail
  refine (made_any x A n c zs _ HA.out).mono ?_
  rintro e w1 ⟨p, k, c1, A1, Z, rfl, hp, hk1, hk4, hy, hc1, hm1, hb⟩
  clear ww1 ww2 ww3 ww4 ww5 ww6
  obtain ⟨n1, hn1⟩ : ∃ n1, p * k = n1 := ⟨_, rfl⟩
  have hq0 : 512 ≤ p := by omega
  have hq1 : p ≤ 8192 := by omega
  have hpk : n1 % p = 0 := by rw [← hn1]; exact Nat.mul_mod_right _ _
  have hpd : n1 / p ≤ 8 := by rw [← hn1, Nat.mul_div_cancel_left _ (by omega)]; omega
  have hpos : 0 < n1 := by rw [← hn1]; exact Nat.mul_pos (by omega) hk1
  rw [hn1] at hy hc1
  rw [hn1]
  have hE1 : areE (p : Int) n1 0 (a : Int) (m : Int) = 0 := areE_in hq0 hq1 hpk hpos hpd (HFM.out p hq0).1
  have hE2 : areE (p : Int) n1 0 (ak : Int) ((0 : Nat) : Int) = 0 := areE_in hq0 hq1 hpk hpos hpd (HFM.out p hq0).2
  have hf1 : fromE (p : Int) 0 (a : Int) = a := by unfold fromE; omega
  have hf2 : fromE (p : Int) 0 (ak : Int) = ak := by unfold fromE; omega
  have e1 := fun w' (h : Bytes w' A1 n1 Z) h' => T1.out p n1 c1 A1 Z w' h h' hc1 hm1
  have e2 := fun w' (h : Bytes w' A1 n1 Z) h' => T2.out p n1 c1 A1 Z w' h h' hc1 hm1
  have e3 := fun A4 c4 w' (h : Bytes w' A4 n1 (chgL Z a (prgG bs) m)) h' hc4 hm4 => T3.out p n1 c4 A4 (chgL Z a (prgG bs) m) w' h h' hc4 hm4
  have hj := parts_join Z bs a (m) (0)
  rw [HAK.out.1, HAK.out.2] at hj
  simp only [hE1, hE2, hf1, hf2, hj, ifE_ok] at e1 e2 e3
  have hl1 : (chgL Z a (prgG bs) m).length = n1 := by rw [chgL_len]; exact hy.len
  have hl2 : (chgL Z a (prgG bs) m).length = n1 := by rw [chgL_len]; exact hy.len
  generalize chgL Z a (prgG bs) m = L1 at *
  have D1 := Lib.hid e1
  have D2 := Lib.hid e2
  have D3 := Lib.hid e3
  have HL := Lib.hid (And.intro hl1 hl2)
  have HBw := Lib.hid hb
  have HG0 := Lib.hid (Below.refl w.heap.size w)
  clear e1 e2 e3 hj hE1 hE2 hf1 hf2 hpk hpd hpos hn1 hp hk1 hk4 hc1 hm1 hq0 hq1 hl1 hl2
  have hbx := (Below.refl w1.heap.size w1).alloc (Nat.le_refl _) (.cells #[.int .i64 (p : Int), .slice A1 n1 c1] 24)
  have hbb := hb.trans (hbx.mono hb.size)
  have HY1 := Lib.hid (hy.below hbx)
  have HQ1 := Lib.hid hbb
  have HG1 := Lib.hid (HG0.out.trans (hbb.mono HG0.out.size))
  have HX1 := Lib.hid (Cs.new w1 24 [.int .i64 (p : Int), .slice A1 n1 c1])
  clear hb hbx hy hbb
  have ww1 := V1.out
  have ww2 := V2.out
  have ww3 := V3.out
  have ww4 := V4.out
  have ww5 := V5.out
  have ww6 := V6.out
  have HBB1 := Lib.hid (HBB.out.below HQ1.out)
  have u1 := HX1.out.cell 0
  have v1 := HX1.out.cell 1
  simp only [List.getElem?_cons_succ, List.getElem?_cons_zero] at u1 v1
  go_wp2_with fail
  refine (D1.out _ HY1.out HBB1.out).mono ?_
  rintro e w2 ⟨A2, n2, c2, rfl, hy, hk2, hm2, hb⟩
  obtain rfl : n2 = n1 := by rw [← hy.len]; exact HL.out.1
  have hbx := (Below.refl w2.heap.size w2).alloc (Nat.le_refl _) (.cells #[.int .i64 (p : Int), .slice A2 n2 c2] 24)
  have hbb := hb.trans (hbx.mono hb.size)
  have HY2 := Lib.hid (hy.below hbx)
  have HQ2 := Lib.hid hbb
  have HG2 := Lib.hid (HG1.out.trans (hbb.mono HG1.out.size))
  have HX2 := Lib.hid (Cs.new w2 24 [.int .i64 (p : Int), .slice A2 n2 c2])
  have hHX1 := (HX1.out.below hb HX1.out.lt).grow (.cells #[.int .i64 (p : Int), .slice A2 n2 c2] 24)
  clear hb hbx hy hbb
  clear HX1
  have HX1 := Lib.hid hHX1
  clear hHX1
  have HYf := Lib.hid (HY1.out.below HQ2.out)
  have HBB2 := Lib.hid (HBB1.out.below HQ2.out)
  clear u1 v1
  have u1 := HX1.out.cell 0
  have v1 := HX1.out.cell 1
  simp only [List.getElem?_cons_succ, List.getElem?_cons_zero] at u1 v1
  have u2 := HX2.out.cell 0
  have v2 := HX2.out.cell 1
  simp only [List.getElem?_cons_succ, List.getElem?_cons_zero] at u2 v2
  go_wp2_with fail
  refine (D2.out _ HYf.out HBB2.out).mono ?_
  rintro e w3 ⟨A3, n3, c3, rfl, hy, hk3, hm3, hb⟩
  obtain rfl : n3 = n2 := by rw [← hy.len]; exact HL.out.2
  have hbx := (Below.refl w3.heap.size w3).alloc (Nat.le_refl _) (.cells #[.int .i64 (p : Int), .slice A3 n3 c3] 24)
  have hbb := hb.trans (hbx.mono hb.size)
  have HY3 := Lib.hid (hy.below hbx)
  have HQ3 := Lib.hid hbb
  have HG3 := Lib.hid (HG2.out.trans (hbb.mono HG2.out.size))
  have HX3 := Lib.hid (Cs.new w3 24 [.int .i64 (p : Int), .slice A3 n3 c3])
  have hHX1 := (HX1.out.below hb HX1.out.lt).grow (.cells #[.int .i64 (p : Int), .slice A3 n3 c3] 24)
  have hHX2 := (HX2.out.below hb HX2.out.lt).grow (.cells #[.int .i64 (p : Int), .slice A3 n3 c3] 24)
  clear hb hbx hy hbb
  clear HX1
  have HX1 := Lib.hid hHX1
  clear hHX1
  clear HX2
  have HX2 := Lib.hid hHX2
  clear hHX2
  have HLow3 := Lib.hid (HLow.out.below HG3.out)
  clear u1 v1 u2 v2
  have u1 := HX1.out.cell 0
  have v1 := HX1.out.cell 1
  simp only [List.getElem?_cons_succ, List.getElem?_cons_zero] at u1 v1
  have u2 := HX2.out.cell 0
  have v2 := HX2.out.cell 1
  simp only [List.getElem?_cons_succ, List.getElem?_cons_zero] at u2 v2
  have u3 := HX3.out.cell 0
  have v3 := HX3.out.cell 1
  simp only [List.getElem?_cons_succ, List.getElem?_cons_zero] at u3 v3
  have HLd := Lib.hid (HLow3.out.below (Below.refl _ _).drew)
  have HYd := Lib.hid (HY3.out.below (Below.refl _ _).drew)
  have HX2d := Lib.hid HX2.out.drew
  have HYx := Lib.hid (((HY2.out.below HQ3.out)).below (Below.refl _ _).drew)
  have HGd := Lib.hid HG3.out.drew
  have HX3d := Lib.hid HX3.out.drew
  clear u1 v1 u2 v2 u3 v3
  go_wp2_with fail
  refine held_begin (by kernel_rfl) ?_
  refine held_take (i := 0) (v := ?_) rfl rfl (by kernel_rfl) (by kernel_rfl) (by kernel_rfl) (fun _ _ _ h => h) (by rfl) ?_ ?_
  rotate_left
  · intro W hW
    have z0 := (HX3d.out.below hW HX3d.out.lt).cell 0
    have y0 := (HX3d.out.below hW HX3d.out.lt).cell 1
    simp only [List.getElem?_cons_succ, List.getElem?_cons_zero] at z0 y0
    go_simp
    try with_reducible rfl
  simp only [Act.put, List.setIfInBounds_toArray, List.set_cons_zero, List.set_cons_succ]
  refine held_take (i := 1) (v := ?_) rfl rfl (by kernel_rfl) (by kernel_rfl) (by kernel_rfl) (fun _ _ _ h => h) (by rfl) ?_ ?_
  rotate_left
  · intro W hW
    go_simp
    try with_reducible rfl
  simp only [Act.put, List.setIfInBounds_toArray, List.set_cons_zero, List.set_cons_succ]
  refine held_take (i := 2) (v := ?_) rfl rfl (by kernel_rfl) (by kernel_rfl) (by kernel_rfl) (fun _ _ _ h => h) (by rfl) ?_ ?_
  rotate_left
  · intro W hW
    go_simp
    try with_reducible rfl
  simp only [Act.put, List.setIfInBounds_toArray, List.set_cons_zero, List.set_cons_succ]
  refine held_take (i := 3) (v := ?_) rfl rfl (by kernel_rfl) (by kernel_rfl) (by kernel_rfl) (fun _ _ _ h => h) (by rfl) ?_ ?_
  rotate_left
  · intro W hW
    go_simp
    try with_reducible rfl
  simp only [Act.put, List.setIfInBounds_toArray, List.set_cons_zero, List.set_cons_succ]
  refine held_take (i := 4) (v := ?_) rfl rfl (by kernel_rfl) (by kernel_rfl) (by kernel_rfl) (fun _ _ _ h => h) (by rfl) ?_ ?_
  rotate_left
  · intro W hW
    go_simp
    try with_reducible rfl
  simp only [Act.put, List.setIfInBounds_toArray, List.set_cons_zero, List.set_cons_succ]
  refine held_take (i := 5) (v := ?_) rfl rfl (by kernel_rfl) (by kernel_rfl) (by kernel_rfl) (fun _ _ _ h => h) (by rfl) ?_ ?_
  rotate_left
  · intro W hW
    go_simp
    try with_reducible rfl
  simp only [Act.put, List.setIfInBounds_toArray, List.set_cons_zero, List.set_cons_succ]
  refine held_take (i := 6) (v := ?_) rfl rfl (by kernel_rfl) (by kernel_rfl) (by kernel_rfl) (fun _ _ _ h => h) (by rfl) ?_ ?_
  rotate_left
  · intro W hW
    go_simp
    try with_reducible rfl
  simp only [Act.put, List.setIfInBounds_toArray, List.set_cons_zero, List.set_cons_succ]
  refine held_take (i := 7) (v := ?_) rfl rfl (by kernel_rfl) (by kernel_rfl) (by kernel_rfl) (fun _ _ _ h => h) (by rfl) ?_ ?_
  rotate_left
  · intro W hW
    go_simp
    try with_reducible rfl
  simp only [Act.put, List.setIfInBounds_toArray, List.set_cons_zero, List.set_cons_succ]
  refine hs_two (i := 8) (j := 13) (by kernel_rfl) rfl rfl ?_ ?_
  · intro K' hK
    go_simp
    refine (D3.out _ _ _ HYd.out HLd.out hk3 hm3).mono ?_
    rintro e w4 ⟨A4, n4, c4, rfl, hy4, _, _, hb⟩
    have hl4 := hy4.len
    obtain rfl : n4 = n3 := by rw [← hl4]; exact HL.out.1
    have HY4 := Lib.hid hy4
    have HX2e := Lib.hid (HX2d.out.below hb HX2d.out.lt)
    have HYxe := Lib.hid (HYx.out.below hb)
    have HGe := Lib.hid (HGd.out.trans (hb.mono HGd.out.size))
    refine hK.out _ _ hb ?_
    clear hK K'
    refine held_from (fun W h => hb.trans (h.mono hb.size)) ?_
    clear hb hy4 hl4
    refine held_take (i := 9) (v := ?_) rfl rfl (by kernel_rfl) (by kernel_rfl) (by kernel_rfl) (fun _ _ _ h => h) (by rfl) ?_ ?_
    rotate_left
    · intro W hW
      go_simp
      try with_reducible rfl
    simp only [Act.put, List.setIfInBounds_toArray, List.set_cons_zero, List.set_cons_succ]
    refine held_take (i := 10) (v := ?_) rfl rfl (by kernel_rfl) (by kernel_rfl) (by kernel_rfl) (fun _ _ _ h => h) (by rfl) ?_ ?_
    rotate_left
    · intro W hW
      go_simp
      try with_reducible rfl
    simp only [Act.put, List.setIfInBounds_toArray, List.set_cons_zero, List.set_cons_succ]
    refine held_take (i := 11) (v := ?_) rfl rfl (by kernel_rfl) (by kernel_rfl) (by kernel_rfl) (fun _ _ _ h => h) (by rfl) ?_ ?_
    rotate_left
    · intro W hW
      go_simp
      try with_reducible rfl
    simp only [Act.put, List.setIfInBounds_toArray, List.set_cons_zero, List.set_cons_succ]
    refine held_take (i := 12) (v := ?_) rfl rfl (by kernel_rfl) (by kernel_rfl) (by kernel_rfl) (fun _ _ _ h => h) (by rfl) ?_ ?_
    rotate_left
    · intro W hW
      go_simp
      try with_reducible rfl
    simp only [Act.put, List.setIfInBounds_toArray, List.set_cons_zero, List.set_cons_succ]
    have hS := (Below.refl w4.heap.size w4).alloc (Nat.le_refl _) (.cells #[.int .i64 0, .slice none 0 0] 24)
    refine hs_call (i := 13) (by kernel_rfl) rfl (fun K' hK => ?_)
    go_simp
    refine hK.out _ _ hS ?_
    clear hK K'
    have hq := Cs.new w4 24 [.int .i64 0, .slice none 0 0]
    have q0 := hq.cell 0
    have q1 := hq.cell 1
    have f0 := hq.free 0
    have f1 := hq.free 1
    simp only [List.getElem?_cons_succ, List.getElem?_cons_zero] at q0 q1
    refine hs_call (i := 14) (by kernel_rfl) rfl (fun K' hK => ?_)
    go_simp
    have hS4 := (Below.refl w4.heap.size w4).alloc (Nat.le_refl _) (.cells #[.int .i64 (p : Int), .slice A4 n4 c4] 24)
    refine hK.out _ _ hS4 ?_
    clear hK K' q0 q1 f0 f1 hS hq
    refine hs_take (i := 15) (v := ?_) rfl rfl (by kernel_rfl) (by kernel_rfl) (by kernel_rfl) (fun _ _ _ h => h) (by rfl) hS4 ?_ ?_
    rotate_left
    · intro W' hW'
      go_simp
      try with_reducible rfl
    simp only [Act.put, List.setIfInBounds_toArray, List.set_cons_zero, List.set_cons_succ]
    refine hs_take (i := 16) (v := ?_) rfl rfl (by kernel_rfl) (by kernel_rfl) (by kernel_rfl) (fun _ _ _ h => h) (by rfl) hS4 ?_ ?_
    rotate_left
    · intro W' hW'
      go_simp
      try with_reducible rfl
    simp only [Act.put, List.setIfInBounds_toArray, List.set_cons_zero, List.set_cons_succ]
    refine wpAnyH_done (by kernel_rfl) ?_ _
    have HX2f := HX2e.out.grow (.cells #[.int .i64 (p : Int), .slice A4 n4 c4] 24)
    have HX4f := Cs.new w4 24 [.int .i64 (p : Int), .slice A4 n4 c4]
    have u2 := HX2f.cell 0
    have v2 := HX2f.cell 1
    have u4 := HX4f.cell 0
    have v4 := HX4f.cell 1
    simp only [List.getElem?_cons_succ, List.getElem?_cons_zero] at u2 v2 u4 v4
    have HYa := Lib.hid (HYxe.out.below hS4)
    have HYb := Lib.hid (HY4.out.below hS4)
    have HGf := Lib.hid (HGe.out.trans (hS4.mono HGe.out.size))
    clear hS4 HX2f HX4f
    go_wp2_with fail
    refine (same_any (p : Int) A2 A4 n4 c2 n4 c4 L1 _ HYa.out HYb.out).mono ?_
    rintro e w5 ⟨rfl, hb⟩
    have HGg := Lib.hid (HGf.out.trans (hb.mono HGf.out.size))
    clear hb
    go_wp2_with fail
    refine (awake7_any _).mono ?_
    rintro e w6 ⟨rfl, hb⟩
    have HGh := Lib.hid (HGg.out.trans (hb.mono HGg.out.size))
    clear hb
    go_wp2
    go_ret
    exact ⟨rfl, HGh.out⟩
  · intro K' hK
    go_simp
    have hS : Below (w3.alloc (.cells #[.int .i64 (p : Int), .slice A3 n3 c3] 24)).drew.heap.size (w3.alloc (.cells #[.int .i64 (p : Int), .slice A3 n3 c3] 24)).drew ((w3.alloc (.cells #[.int .i64 (p : Int), .slice A3 n3 c3] 24)).alloc (.cells #[.int .i64 0, .slice none 0 0] 24)).drew := (Below.refl _ (w3.alloc (.cells #[.int .i64 (p : Int), .slice A3 n3 c3] 24)).drew).alloc (Nat.le_refl _) (.cells #[.int .i64 0, .slice none 0 0] 24)
    have HYz := Lib.hid (HYd.out.below hS)
    have HLz := Lib.hid (HLd.out.below hS)
    have HYxz := Lib.hid (HYx.out.below hS)
    have HX2z := Lib.hid (HX2d.out.below hS HX2d.out.lt)
    have HZz := Lib.hid ((Cs.new2 w3 (.cells #[.int .i64 (p : Int), .slice A3 n3 c3] 24) 24 [.int .i64 0, .slice none 0 0]).drew)
    have HGz := Lib.hid (HGd.out.trans (hS.mono HGd.out.size))
    have HSz := Lib.hid hS
    have hbw : w.heap.size ≤ w3.heap.size + 1 := by have h9 := HGd.out.size; simpa using h9
    have hne : w2.heap.size ≠ w3.heap.size + 1 := by have h9 := HX2d.out.lt; simp at h9; omega
    have HNE := Lib.hid (And.intro hbw hne)
    refine hK.out _ _ hS ?_
    clear hK K' hS hbw hne
    refine hs_call (i := 8) (by kernel_rfl) rfl (fun K' hK => ?_)
    go_simp
    refine (D3.out _ _ _ HYz.out HLz.out hk3 hm3).mono ?_
    rintro e w4 ⟨A4, n4, c4, rfl, hy4, _, _, hb⟩
    have hl4 := hy4.len
    obtain rfl : n4 = n3 := by rw [← hl4]; exact HL.out.1
    have HY4 := Lib.hid hy4
    have HX2e := Lib.hid (HX2z.out.below hb HX2z.out.lt)
    have HYxe := Lib.hid (HYxz.out.below hb)
    have HZ4 := Lib.hid (HZz.out.below hb HZz.out.lt)
    have HGe := Lib.hid (HGz.out.trans (hb.mono HGz.out.size))
    have HS4 := Lib.hid (HSz.out.trans (hb.mono HSz.out.size))
    refine hK.out _ _ HS4.out ?_
    clear hK K' hb hy4 hl4
    refine hs_take (i := 9) (v := ?_) rfl rfl (by kernel_rfl) (by kernel_rfl) (by kernel_rfl) (fun _ _ _ h => h) (by rfl) HS4.out ?_ ?_
    rotate_left
    · intro W' hW'
      go_simp
      try with_reducible rfl
    simp only [Act.put, List.setIfInBounds_toArray, List.set_cons_zero, List.set_cons_succ]
    refine hs_take (i := 10) (v := ?_) rfl rfl (by kernel_rfl) (by kernel_rfl) (by kernel_rfl) (fun _ _ _ h => h) (by rfl) HS4.out ?_ ?_
    rotate_left
    · intro W' hW'
      go_simp
      try with_reducible rfl
    simp only [Act.put, List.setIfInBounds_toArray, List.set_cons_zero, List.set_cons_succ]
    refine hs_take (i := 11) (v := ?_) rfl rfl (by kernel_rfl) (by kernel_rfl) (by kernel_rfl) (fun _ _ _ h => h) (by rfl) HS4.out ?_ ?_
    rotate_left
    · intro W' hW'
      go_simp
      try with_reducible rfl
    simp only [Act.put, List.setIfInBounds_toArray, List.set_cons_zero, List.set_cons_succ]
    refine hs_take (i := 12) (v := ?_) rfl rfl (by kernel_rfl) (by kernel_rfl) (by kernel_rfl) (fun _ _ _ h => h) (by rfl) HS4.out ?_ ?_
    rotate_left
    · intro W' hW'
      go_simp
      try with_reducible rfl
    simp only [Act.put, List.setIfInBounds_toArray, List.set_cons_zero, List.set_cons_succ]
    have q0 := HZ4.out.cell 0
    have q1 := HZ4.out.cell 1
    have f0 := HZ4.out.free 0
    have f1 := HZ4.out.free 1
    simp only [List.getElem?_cons_succ, List.getElem?_cons_zero] at q0 q1
    have hS5 := (HS4.out.setCell (p := ⟨w3.heap.size + 1, 0, none⟩) (by simp) (.int .i64 (p : Int))).setCell (p := ⟨w3.heap.size + 1, 1, none⟩) (by simp) (.slice A4 n4 c4)
    have HYb := Lib.hid (HY4.out.setTwo (.int .i64 (p : Int)) (.slice A4 n4 c4) _ _ q0 q1 (fun z e => by cases e) (fun z e => by cases e))
    have HYa := Lib.hid (HYxe.out.setTwo (.int .i64 (p : Int)) (.slice A4 n4 c4) _ _ q0 q1 (fun z e => by cases e) (fun z e => by cases e))
    refine hs_call (i := 14) (by kernel_rfl) rfl (fun K' hK => ?_)
    go_simp
    refine hK.out _ _ hS5 ?_
    clear hK K' q0 q1 f0 f1
    refine hs_take (i := 15) (v := ?_) rfl rfl (by kernel_rfl) (by kernel_rfl) (by kernel_rfl) (fun _ _ _ h => h) (by rfl) hS5 ?_ ?_
    rotate_left
    · intro W' hW'
      go_simp
      try with_reducible rfl
    simp only [Act.put, List.setIfInBounds_toArray, List.set_cons_zero, List.set_cons_succ]
    refine hs_take (i := 16) (v := ?_) rfl rfl (by kernel_rfl) (by kernel_rfl) (by kernel_rfl) (fun _ _ _ h => h) (by rfl) hS5 ?_ ?_
    rotate_left
    · intro W' hW'
      go_simp
      try with_reducible rfl
    simp only [Act.put, List.setIfInBounds_toArray, List.set_cons_zero, List.set_cons_succ]
    refine wpAnyH_done (by kernel_rfl) ?_ _
    have HX2f := (HX2e.out.far_set 0 (.int .i64 (p : Int)) HNE.out.2).far_set 1 (.slice A4 n4 c4) HNE.out.2
    have HX4f := (HZ4.out.set_ 0 (.int .i64 (p : Int))).set_ 1 (.slice A4 n4 c4)
    have u2 := HX2f.cell 0
    have v2 := HX2f.cell 1
    have u4 := HX4f.cell 0
    have v4 := HX4f.cell 1
    simp only [List.set_cons_zero, List.set_cons_succ, List.getElem?_cons_succ, List.getElem?_cons_zero] at u2 v2 u4 v4
    have HGf := Lib.hid ((HGe.out.setCell (p := ⟨w3.heap.size + 1, 0, none⟩) HNE.out.1 (.int .i64 (p : Int))).setCell (p := ⟨w3.heap.size + 1, 1, none⟩) HNE.out.1 (.slice A4 n4 c4))
    clear hS5 HX2f HX4f
    go_wp2_with fail
    refine (same_any (p : Int) A2 A4 n4 c2 n4 c4 L1 _ HYa.out HYb.out).mono ?_
    rintro e w5 ⟨rfl, hb⟩
    have HGg := Lib.hid (HGf.out.trans (hb.mono HGf.out.size))
    clear hb
    go_wp2_with fail
    refine (awake7_any _).mono ?_
    rintro e w6 ⟨rfl, hb⟩
    have HGh := Lib.hid (HGg.out.trans (hb.mono HGg.out.size))
    clear hb
    go_wp2
    go_ret
    exact ⟨rfl, HGh.out⟩
set_option maxHeartbeats 8000000 in
theorem parts_v4 (x : Int) (A : Option Addr) (n c a bu : Nat) (zs bs : List Int) (w : World) (hA : Nums w A n zs) (hB : Bytes w none 0 bs) (hd : 0 ≤ 0) (hdm : 0 ≤ 9223372036854775807) (ha : a ≤ 255) (hbu : bu ≤ 255) (_ : 0 ≤ 200) (hcut : 0 < bu) :
    Calls Try.prog 7 #[.int .i64 x, .slice A n c, .int .u8 (a : Int), .slice none 0 0, .int .u8 (bu : Int)] w fun e w' => e = .returned (.bool true) ∧ Below w.heap.size w w' := by
  have h1 : ¬ (200 : Int) < (0 : Int) := by omega
  have hmin : min (bu : Int) (0 : Int) = (0 : Int) := by omega
  have hLow : Bytes w none (0) (bs.drop 0) := (by rw [List.drop_of_length_le (by rw [hB.len]; exact Nat.le_refl _)]; exact hB.take 0 (Nat.zero_le _))
  obtain ⟨ak, hak⟩ : ∃ ak, a + 0 = ak := ⟨_, rfl⟩
  have hakI : (a : Int) + (0 : Int) = (ak : Int) := by omega
  have hdn : doneN (0 : Int) 0 = 0 := by unfold doneN; rw [if_pos (by omega)]
  have hlf : leftB (0 : Int) 0 = 0 := by unfold leftB; rw [if_neg (by omega)]; rw [if_pos (by omega)]; omega
  have hpw : powE6 (0 : Int) 0 = 0 := by unfold powE6; rw [if_pos (by omega)]
  have hd1 : ∀ j, doneN (-1) j = j := fun j => by unfold doneN; rw [if_pos (by omega)]
  have hl1 : ∀ j, leftB (-1) j = -1 := fun j => by unfold leftB; rw [if_pos (by omega)]
  have hp1 : ∀ j, powE6 (-1) j = 0 := fun j => by unfold powE6; rw [if_pos (by omega)]
  have hfm : ∀ p : Nat, 512 ≤ p → a + 0 ≤ p ∧ ak + (0) ≤ p := fun p h => by omega
  have hsum : 0 + (0) = 0 := by omega
  have e1 := fun (p n1 c1 : Nat) A1 Z w' (h : Bytes w' A1 n1 Z) (h' : Bytes w' none 0 bs) hc1 hm1 => prgE_all (p : Int) A1 none n1 c1 0 0 Z bs 0 (a : Int) (-1) w' h h' hc1 hm1 hd hdm (by decide)
  have e2 := fun (p n1 c1 : Nat) A1 Z w' (h : Bytes w' A1 n1 Z) (h' : Bytes w' none 0 bs) hc1 hm1 => prgE_all (p : Int) A1 none n1 c1 0 0 Z bs 0 (a : Int) (0 : Int) w' h h' hc1 hm1 hd hdm (by omega)
  have e3 := fun (p n1 c1 : Nat) A1 Z w' (h : Bytes w' A1 n1 Z) (h' : Bytes w' none (0) (bs.drop 0)) hc1 hm1 => prgE_all (p : Int) A1 none n1 c1 (0) (0) Z (bs.drop 0) 0 (ak : Int) (-1) w' h h' hc1 hm1 (by omega) (by omega) (by decide)
  unfold GivesP at e1 e2 e3
  simp only [hd1, hl1, hp1, hdn, hlf, hpw] at e1 e2 e3
  have V1 := Lib.hid (wrap_nat a (by omega))
  have V2 := Lib.hid (iwrap_nat a (by omega))
  have V3 := Lib.hid (wrap_nat bu (by omega))
  have V4 := Lib.hid (iwrap_nat bu (by omega))
  have V5 := Lib.hid (wrap_nat ak (by omega))
  have V6 := Lib.hid (iwrap_nat ak (by omega))
  have HA := Lib.hid hA
  have HBB := Lib.hid hB
  have HLow := Lib.hid hLow
  have HFM := Lib.hid hfm
  have HAK := Lib.hid (And.intro hak hsum)
  have T1 := Lib.hid e1
  have T2 := Lib.hid e2
  have T3 := Lib.hid e3
  have s0 : ¬ (bu : Int) ≤ (0 : Int) := by omega
  have s00 : (0 : Int) < (bu : Int) := by omega
  clear hA hB hLow hd hdm ha hbu hdn hlf hpw hd1 hl1 hp1 hfm e1 e2 e3 hak hsum hcut
  have ww1 := V1.out
  have ww2 := V2.out
  have ww3 := V3.out
  have ww4 := V4.out
  have ww5 := V5.out
  have ww6 := V6.out
  go_enter Try.func7, Try.ntmps7
  go_wp2_with fail
  refine (made_any x A n c zs _ HA.out).mono ?_
  rintro e w1 ⟨p, k, c1, A1, Z, rfl, hp, hk1, hk4, hy, hc1, hm1, hb⟩
  clear ww1 ww2 ww3 ww4 ww5 ww6
  obtain ⟨n1, hn1⟩ : ∃ n1, p * k = n1 := ⟨_, rfl⟩
  have hq0 : 512 ≤ p := by omega
  have hq1 : p ≤ 8192 := by omega
  have hpk : n1 % p = 0 := by rw [← hn1]; exact Nat.mul_mod_right _ _
  have hpd : n1 / p ≤ 8 := by rw [← hn1, Nat.mul_div_cancel_left _ (by omega)]; omega
  have hpos : 0 < n1 := by rw [← hn1]; exact Nat.mul_pos (by omega) hk1
  rw [hn1] at hy hc1
  rw [hn1]
  have hE1 : areE (p : Int) n1 0 (a : Int) ((0 : Nat) : Int) = 0 := areE_in hq0 hq1 hpk hpos hpd (HFM.out p hq0).1
  have hE2 : areE (p : Int) n1 0 (ak : Int) ((0 : Nat) : Int) = 0 := areE_in hq0 hq1 hpk hpos hpd (HFM.out p hq0).2
  have hf1 : fromE (p : Int) 0 (a : Int) = a := by unfold fromE; omega
  have hf2 : fromE (p : Int) 0 (ak : Int) = ak := by unfold fromE; omega
  have e1 := fun w' (h : Bytes w' A1 n1 Z) h' => T1.out p n1 c1 A1 Z w' h h' hc1 hm1
  have e2 := fun w' (h : Bytes w' A1 n1 Z) h' => T2.out p n1 c1 A1 Z w' h h' hc1 hm1
  have e3 := fun A4 c4 w' (h : Bytes w' A4 n1 (chgL Z a (prgG bs) 0)) h' hc4 hm4 => T3.out p n1 c4 A4 (chgL Z a (prgG bs) 0) w' h h' hc4 hm4
  have hj := parts_join Z bs a (0) (0)
  rw [HAK.out.1, Nat.add_zero] at hj
  simp only [hE1, hE2, hf1, hf2, hj, ifE_ok] at e1 e2 e3
  have hl1 : (chgL Z a (prgG bs) 0).length = n1 := by rw [chgL_len]; exact hy.len
  have hl2 : (chgL Z a (prgG bs) 0).length = n1 := by rw [chgL_len]; exact hy.len
  generalize chgL Z a (prgG bs) 0 = L1 at *
  have D1 := Lib.hid e1
  have D2 := Lib.hid e2
  have D3 := Lib.hid e3
  have HL := Lib.hid (And.intro hl1 hl2)
  have HBw := Lib.hid hb
  have HG0 := Lib.hid (Below.refl w.heap.size w)
  clear e1 e2 e3 hj hE1 hE2 hf1 hf2 hpk hpd hpos hn1 hp hk1 hk4 hc1 hm1 hq0 hq1 hl1 hl2
  have hbx := (Below.refl w1.heap.size w1).alloc (Nat.le_refl _) (.cells #[.int .i64 (p : Int), .slice A1 n1 c1] 24)
  have hbb := hb.trans (hbx.mono hb.size)
  have HY1 := Lib.hid (hy.below hbx)
  have HQ1 := Lib.hid hbb
  have HG1 := Lib.hid (HG0.out.trans (hbb.mono HG0.out.size))
  have HX1 := Lib.hid (Cs.new w1 24 [.int .i64 (p : Int), .slice A1 n1 c1])
  clear hb hbx hy hbb
  have ww1 := V1.out
  have ww2 := V2.out
  have ww3 := V3.out
  have ww4 := V4.out
  have ww5 := V5.out
  have ww6 := V6.out
  have HBB1 := Lib.hid (HBB.out.below HQ1.out)
  have u1 := HX1.out.cell 0
  have v1 := HX1.out.cell 1
  simp only [List.getElem?_cons_succ, List.getElem?_cons_zero] at u1 v1
  go_wp2_with fail
  refine (D1.out _ HY1.out HBB1.out).mono ?_
  rintro e w2 ⟨A2, n2, c2, rfl, hy, hk2, hm2, hb⟩
  obtain rfl : n2 = n1 := by rw [← hy.len]; exact HL.out.1
  have hbx := (Below.refl w2.heap.size w2).alloc (Nat.le_refl _) (.cells #[.int .i64 (p : Int), .slice A2 n2 c2] 24)
  have hbb := hb.trans (hbx.mono hb.size)
  have HY2 := Lib.hid (hy.below hbx)
  have HQ2 := Lib.hid hbb
  have HG2 := Lib.hid (HG1.out.trans (hbb.mono HG1.out.size))
  have HX2 := Lib.hid (Cs.new w2 24 [.int .i64 (p : Int), .slice A2 n2 c2])
  have hHX1 := (HX1.out.below hb HX1.out.lt).grow (.cells #[.int .i64 (p : Int), .slice A2 n2 c2] 24)
  clear hb hbx hy hbb
  clear HX1
  have HX1 := Lib.hid hHX1
  clear hHX1
  have HYf := Lib.hid (HY1.out.below HQ2.out)
  have HBB2 := Lib.hid (HBB1.out.below HQ2.out)
  clear u1 v1
  have u1 := HX1.out.cell 0
  have v1 := HX1.out.cell 1
  simp only [List.getElem?_cons_succ, List.getElem?_cons_zero] at u1 v1
  have u2 := HX2.out.cell 0
  have v2 := HX2.out.cell 1
  simp only [List.getElem?_cons_succ, List.getElem?_cons_zero] at u2 v2
  go_wp2_with fail
  refine (D2.out _ HYf.out HBB2.out).mono ?_
  rintro e w3 ⟨A3, n3, c3, rfl, hy, hk3, hm3, hb⟩
  obtain rfl : n3 = n2 := by rw [← hy.len]; exact HL.out.2
  have hbx := (Below.refl w3.heap.size w3).alloc (Nat.le_refl _) (.cells #[.int .i64 (p : Int), .slice A3 n3 c3] 24)
  have hbb := hb.trans (hbx.mono hb.size)
  have HY3 := Lib.hid (hy.below hbx)
  have HQ3 := Lib.hid hbb
  have HG3 := Lib.hid (HG2.out.trans (hbb.mono HG2.out.size))
  have HX3 := Lib.hid (Cs.new w3 24 [.int .i64 (p : Int), .slice A3 n3 c3])
  have hHX1 := (HX1.out.below hb HX1.out.lt).grow (.cells #[.int .i64 (p : Int), .slice A3 n3 c3] 24)
  have hHX2 := (HX2.out.below hb HX2.out.lt).grow (.cells #[.int .i64 (p : Int), .slice A3 n3 c3] 24)
  clear hb hbx hy hbb
  clear HX1
  have HX1 := Lib.hid hHX1
  clear hHX1
  clear HX2
  have HX2 := Lib.hid hHX2
  clear hHX2
  have HLow3 := Lib.hid (HLow.out.below HG3.out)
  clear u1 v1 u2 v2
  have u1 := HX1.out.cell 0
  have v1 := HX1.out.cell 1
  simp only [List.getElem?_cons_succ, List.getElem?_cons_zero] at u1 v1
  have u2 := HX2.out.cell 0
  have v2 := HX2.out.cell 1
  simp only [List.getElem?_cons_succ, List.getElem?_cons_zero] at u2 v2
  have u3 := HX3.out.cell 0
  have v3 := HX3.out.cell 1
  simp only [List.getElem?_cons_succ, List.getElem?_cons_zero] at u3 v3
  have HLd := Lib.hid (HLow3.out.below (Below.refl _ _).drew)
  have HYd := Lib.hid (HY3.out.below (Below.refl _ _).drew)
  have HX2d := Lib.hid HX2.out.drew
  have HYx := Lib.hid (((HY2.out.below HQ3.out)).below (Below.refl _ _).drew)
  have HGd := Lib.hid HG3.out.drew
  have HX3d := Lib.hid HX3.out.drew
  clear u1 v1 u2 v2 u3 v3
  go_wp2_with fail
  refine held_begin (by kernel_rfl) ?_
  refine held_take (i := 0) (v := ?_) rfl rfl (by kernel_rfl) (by kernel_rfl) (by kernel_rfl) (fun _ _ _ h => h) (by rfl) ?_ ?_
  rotate_left
  · intro W hW
    have z0 := (HX3d.out.below hW HX3d.out.lt).cell 0
    have y0 := (HX3d.out.below hW HX3d.out.lt).cell 1
    simp only [List.getElem?_cons_succ, List.getElem?_cons_zero] at z0 y0
    go_simp
    try with_reducible rfl
  simp only [Act.put, List.setIfInBounds_toArray, List.set_cons_zero, List.set_cons_succ]
  refine held_take (i := 1) (v := ?_) rfl rfl (by kernel_rfl) (by kernel_rfl) (by kernel_rfl) (fun _ _ _ h => h) (by rfl) ?_ ?_
  rotate_left
  · intro W hW
    go_simp
    try with_reducible rfl
  simp only [Act.put, List.setIfInBounds_toArray, List.set_cons_zero, List.set_cons_succ]
  refine held_take (i := 2) (v := ?_) rfl rfl (by kernel_rfl) (by kernel_rfl) (by kernel_rfl) (fun _ _ _ h => h) (by rfl) ?_ ?_
  rotate_left
  · intro W hW
    go_simp
    try with_reducible rfl
  simp only [Act.put, List.setIfInBounds_toArray, List.set_cons_zero, List.set_cons_succ]
  refine held_take (i := 3) (v := ?_) rfl rfl (by kernel_rfl) (by kernel_rfl) (by kernel_rfl) (fun _ _ _ h => h) (by rfl) ?_ ?_
  rotate_left
  · intro W hW
    go_simp
    try with_reducible rfl
  simp only [Act.put, List.setIfInBounds_toArray, List.set_cons_zero, List.set_cons_succ]
  refine held_take (i := 4) (v := ?_) rfl rfl (by kernel_rfl) (by kernel_rfl) (by kernel_rfl) (fun _ _ _ h => h) (by rfl) ?_ ?_
  rotate_left
  · intro W hW
    go_simp
    try with_reducible rfl
  simp only [Act.put, List.setIfInBounds_toArray, List.set_cons_zero, List.set_cons_succ]
  refine held_take (i := 5) (v := ?_) rfl rfl (by kernel_rfl) (by kernel_rfl) (by kernel_rfl) (fun _ _ _ h => h) (by rfl) ?_ ?_
  rotate_left
  · intro W hW
    go_simp
    try with_reducible rfl
  simp only [Act.put, List.setIfInBounds_toArray, List.set_cons_zero, List.set_cons_succ]
  refine held_take (i := 6) (v := ?_) rfl rfl (by kernel_rfl) (by kernel_rfl) (by kernel_rfl) (fun _ _ _ h => h) (by rfl) ?_ ?_
  rotate_left
  · intro W hW
    go_simp
    try with_reducible rfl
  simp only [Act.put, List.setIfInBounds_toArray, List.set_cons_zero, List.set_cons_succ]
  refine held_take (i := 7) (v := ?_) rfl rfl (by kernel_rfl) (by kernel_rfl) (by kernel_rfl) (fun _ _ _ h => h) (by rfl) ?_ ?_
  rotate_left
  · intro W hW
    go_simp
    try with_reducible rfl
  simp only [Act.put, List.setIfInBounds_toArray, List.set_cons_zero, List.set_cons_succ]
  refine hs_two (i := 8) (j := 13) (by kernel_rfl) rfl rfl ?_ ?_
  · intro K' hK
    go_simp
    refine (D3.out _ _ _ HYd.out HLd.out hk3 hm3).mono ?_
    rintro e w4 ⟨A4, n4, c4, rfl, hy4, _, _, hb⟩
    have hl4 := hy4.len
    obtain rfl : n4 = n3 := by rw [← hl4]; exact HL.out.1
    have HY4 := Lib.hid hy4
    have HX2e := Lib.hid (HX2d.out.below hb HX2d.out.lt)
    have HYxe := Lib.hid (HYx.out.below hb)
    have HGe := Lib.hid (HGd.out.trans (hb.mono HGd.out.size))
    refine hK.out _ _ hb ?_
    clear hK K'
    refine held_from (fun W h => hb.trans (h.mono hb.size)) ?_
    clear hb hy4 hl4
    refine held_take (i := 9) (v := ?_) rfl rfl (by kernel_rfl) (by kernel_rfl) (by kernel_rfl) (fun _ _ _ h => h) (by rfl) ?_ ?_
    rotate_left
    · intro W hW
      go_simp
      try with_reducible rfl
    simp only [Act.put, List.setIfInBounds_toArray, List.set_cons_zero, List.set_cons_succ]
    refine held_take (i := 10) (v := ?_) rfl rfl (by kernel_rfl) (by kernel_rfl) (by kernel_rfl) (fun _ _ _ h => h) (by rfl) ?_ ?_
    rotate_left
    · intro W hW
      go_simp
      try with_reducible rfl
    simp only [Act.put, List.setIfInBounds_toArray, List.set_cons_zero, List.set_cons_succ]
    refine held_take (i := 11) (v := ?_) rfl rfl (by kernel_rfl) (by kernel_rfl) (by kernel_rfl) (fun _ _ _ h => h) (by rfl) ?_ ?_
    rotate_left
    · intro W hW
      go_simp
      try with_reducible rfl
    simp only [Act.put, List.setIfInBounds_toArray, List.set_cons_zero, List.set_cons_succ]
    refine held_take (i := 12) (v := ?_) rfl rfl (by kernel_rfl) (by kernel_rfl) (by kernel_rfl) (fun _ _ _ h => h) (by rfl) ?_ ?_
    rotate_left
    · intro W hW
      go_simp
      try with_reducible rfl
    simp only [Act.put, List.setIfInBounds_toArray, List.set_cons_zero, List.set_cons_succ]
    have hS := (Below.refl w4.heap.size w4).alloc (Nat.le_refl _) (.cells #[.int .i64 0, .slice none 0 0] 24)
    refine hs_call (i := 13) (by kernel_rfl) rfl (fun K' hK => ?_)
    go_simp
    refine hK.out _ _ hS ?_
    clear hK K'
    have hq := Cs.new w4 24 [.int .i64 0, .slice none 0 0]
    have q0 := hq.cell 0
    have q1 := hq.cell 1
    have f0 := hq.free 0
    have f1 := hq.free 1
    simp only [List.getElem?_cons_succ, List.getElem?_cons_zero] at q0 q1
    refine hs_call (i := 14) (by kernel_rfl) rfl (fun K' hK => ?_)
    go_simp
    have hS4 := (Below.refl w4.heap.size w4).alloc (Nat.le_refl _) (.cells #[.int .i64 (p : Int), .slice A4 n4 c4] 24)
    refine hK.out _ _ hS4 ?_
    clear hK K' q0 q1 f0 f1 hS hq
    refine hs_take (i := 15) (v := ?_) rfl rfl (by kernel_rfl) (by kernel_rfl) (by kernel_rfl) (fun _ _ _ h => h) (by rfl) hS4 ?_ ?_
    rotate_left
    · intro W' hW'
      go_simp
      try with_reducible rfl
    simp only [Act.put, List.setIfInBounds_toArray, List.set_cons_zero, List.set_cons_succ]
    refine hs_take (i := 16) (v := ?_) rfl rfl (by kernel_rfl) (by kernel_rfl) (by kernel_rfl) (fun _ _ _ h => h) (by rfl) hS4 ?_ ?_
    rotate_left
    · intro W' hW'
      go_simp
      try with_reducible rfl
    simp only [Act.put, List.setIfInBounds_toArray, List.set_cons_zero, List.set_cons_succ]
    refine wpAnyH_done (by kernel_rfl) ?_ _
    have HX2f := HX2e.out.grow (.cells #[.int .i64 (p : Int), .slice A4 n4 c4] 24)
    have HX4f := Cs.new w4 24 [.int .i64 (p : Int), .slice A4 n4 c4]
    have u2 := HX2f.cell 0
    have v2 := HX2f.cell 1
    have u4 := HX4f.cell 0
    have v4 := HX4f.cell 1
    simp only [List.getElem?_cons_succ, List.getElem?_cons_zero] at u2 v2 u4 v4
    have HYa := Lib.hid (HYxe.out.below hS4)
    have HYb := Lib.hid (HY4.out.below hS4)
    have HGf := Lib.hid (HGe.out.trans (hS4.mono HGe.out.size))
    clear hS4 HX2f HX4f
    go_wp2_with fail
    refine (same_any (p : Int) A2 A4 n4 c2 n4 c4 L1 _ HYa.out HYb.out).mono ?_
    rintro e w5 ⟨rfl, hb⟩
    have HGg := Lib.hid (HGf.out.trans (hb.mono HGf.out.size))
    clear hb
    go_wp2_with fail
    refine (awake7_any _).mono ?_
    rintro e w6 ⟨rfl, hb⟩
    have HGh := Lib.hid (HGg.out.trans (hb.mono HGg.out.size))
    clear hb
    go_wp2
    go_ret
    exact ⟨rfl, HGh.out⟩
  · intro K' hK
    go_simp
    have hS : Below (w3.alloc (.cells #[.int .i64 (p : Int), .slice A3 n3 c3] 24)).drew.heap.size (w3.alloc (.cells #[.int .i64 (p : Int), .slice A3 n3 c3] 24)).drew ((w3.alloc (.cells #[.int .i64 (p : Int), .slice A3 n3 c3] 24)).alloc (.cells #[.int .i64 0, .slice none 0 0] 24)).drew := (Below.refl _ (w3.alloc (.cells #[.int .i64 (p : Int), .slice A3 n3 c3] 24)).drew).alloc (Nat.le_refl _) (.cells #[.int .i64 0, .slice none 0 0] 24)
    have HYz := Lib.hid (HYd.out.below hS)
    have HLz := Lib.hid (HLd.out.below hS)
    have HYxz := Lib.hid (HYx.out.below hS)
    have HX2z := Lib.hid (HX2d.out.below hS HX2d.out.lt)
    have HZz := Lib.hid ((Cs.new2 w3 (.cells #[.int .i64 (p : Int), .slice A3 n3 c3] 24) 24 [.int .i64 0, .slice none 0 0]).drew)
    have HGz := Lib.hid (HGd.out.trans (hS.mono HGd.out.size))
    have HSz := Lib.hid hS
    have hbw : w.heap.size ≤ w3.heap.size + 1 := by have h9 := HGd.out.size; simpa using h9
    have hne : w2.heap.size ≠ w3.heap.size + 1 := by have h9 := HX2d.out.lt; simp at h9; omega
    have HNE := Lib.hid (And.intro hbw hne)
    refine hK.out _ _ hS ?_
    clear hK K' hS hbw hne
    refine hs_call (i := 8) (by kernel_rfl) rfl (fun K' hK => ?_)
    go_simp
    refine (D3.out _ _ _ HYz.out HLz.out hk3 hm3).mono ?_
    rintro e w4 ⟨A4, n4, c4, rfl, hy4, _, _, hb⟩
    have hl4 := hy4.len
    obtain rfl : n4 = n3 := by rw [← hl4]; exact HL.out.1
    have HY4 := Lib.hid hy4
    have HX2e := Lib.hid (HX2z.out.below hb HX2z.out.lt)
    have HYxe := Lib.hid (HYxz.out.below hb)
    have HZ4 := Lib.hid (HZz.out.below hb HZz.out.lt)
    have HGe := Lib.hid (HGz.out.trans (hb.mono HGz.out.size))
    have HS4 := Lib.hid (HSz.out.trans (hb.mono HSz.out.size))
    refine hK.out _ _ HS4.out ?_
    clear hK K' hb hy4 hl4
    refine hs_take (i := 9) (v := ?_) rfl rfl (by kernel_rfl) (by kernel_rfl) (by kernel_rfl) (fun _ _ _ h => h) (by rfl) HS4.out ?_ ?_
    rotate_left
    · intro W' hW'
      go_simp
      try with_reducible rfl
    simp only [Act.put, List.setIfInBounds_toArray, List.set_cons_zero, List.set_cons_succ]
    refine hs_take (i := 10) (v := ?_) rfl rfl (by kernel_rfl) (by kernel_rfl) (by kernel_rfl) (fun _ _ _ h => h) (by rfl) HS4.out ?_ ?_
    rotate_left
    · intro W' hW'
      go_simp
      try with_reducible rfl
    simp only [Act.put, List.setIfInBounds_toArray, List.set_cons_zero, List.set_cons_succ]
    refine hs_take (i := 11) (v := ?_) rfl rfl (by kernel_rfl) (by kernel_rfl) (by kernel_rfl) (fun _ _ _ h => h) (by rfl) HS4.out ?_ ?_
    rotate_left
    · intro W' hW'
      go_simp
      try with_reducible rfl
    simp only [Act.put, List.setIfInBounds_toArray, List.set_cons_zero, List.set_cons_succ]
    refine hs_take (i := 12) (v := ?_) rfl rfl (by kernel_rfl) (by kernel_rfl) (by kernel_rfl) (fun _ _ _ h => h) (by rfl) HS4.out ?_ ?_
    rotate_left
    · intro W' hW'
      go_simp
      try with_reducible rfl
    simp only [Act.put, List.setIfInBounds_toArray, List.set_cons_zero, List.set_cons_succ]
    have q0 := HZ4.out.cell 0
    have q1 := HZ4.out.cell 1
    have f0 := HZ4.out.free 0
    have f1 := HZ4.out.free 1
    simp only [List.getElem?_cons_succ, List.getElem?_cons_zero] at q0 q1
    have hS5 := (HS4.out.setCell (p := ⟨w3.heap.size + 1, 0, none⟩) (by simp) (.int .i64 (p : Int))).setCell (p := ⟨w3.heap.size + 1, 1, none⟩) (by simp) (.slice A4 n4 c4)
    have HYb := Lib.hid (HY4.out.setTwo (.int .i64 (p : Int)) (.slice A4 n4 c4) _ _ q0 q1 (fun z e => by cases e) (fun z e => by cases e))
    have HYa := Lib.hid (HYxe.out.setTwo (.int .i64 (p : Int)) (.slice A4 n4 c4) _ _ q0 q1 (fun z e => by cases e) (fun z e => by cases e))
    refine hs_call (i := 14) (by kernel_rfl) rfl (fun K' hK => ?_)
    go_simp
    refine hK.out _ _ hS5 ?_
    clear hK K' q0 q1 f0 f1
    refine hs_take (i := 15) (v := ?_) rfl rfl (by kernel_rfl) (by kernel_rfl) (by kernel_rfl) (fun _ _ _ h => h) (by rfl) hS5 ?_ ?_
    rotate_left
    · intro W' hW'
      go_simp
      try with_reducible rfl
    simp only [Act.put, List.setIfInBounds_toArray, List.set_cons_zero, List.set_cons_succ]
    refine hs_take (i := 16) (v := ?_) rfl rfl (by kernel_rfl) (by kernel_rfl) (by kernel_rfl) (fun _ _ _ h => h) (by rfl) hS5 ?_ ?_
    rotate_left
    · intro W' hW'
      go_simp
      try with_reducible rfl
    simp only [Act.put, List.setIfInBounds_toArray, List.set_cons_zero, List.set_cons_succ]
    refine wpAnyH_done (by kernel_rfl) ?_ _
    have HX2f := (HX2e.out.far_set 0 (.int .i64 (p : Int)) HNE.out.2).far_set 1 (.slice A4 n4 c4) HNE.out.2
    have HX4f := (HZ4.out.set_ 0 (.int .i64 (p : Int))).set_ 1 (.slice A4 n4 c4)
    have u2 := HX2f.cell 0
    have v2 := HX2f.cell 1
    have u4 := HX4f.cell 0
    have v4 := HX4f.cell 1
    simp only [List.set_cons_zero, List.set_cons_succ, List.getElem?_cons_succ, List.getElem?_cons_zero] at u2 v2 u4 v4
    have HGf := Lib.hid ((HGe.out.setCell (p := ⟨w3.heap.size + 1, 0, none⟩) HNE.out.1 (.int .i64 (p : Int))).setCell (p := ⟨w3.heap.size + 1, 1, none⟩) HNE.out.1 (.slice A4 n4 c4))
    clear hS5 HX2f HX4f
    go_wp2_with fail
    refine (same_any (p : Int) A2 A4 n4 c2 n4 c4 L1 _ HYa.out HYb.out).mono ?_
    rintro e w5 ⟨rfl, hb⟩
    have HGg := Lib.hid (HGf.out.trans (hb.mono HGf.out.size))
    clear hb
    go_wp2_with fail
    refine (awake7_any _).mono ?_
    rintro e w6 ⟨rfl, hb⟩
    have HGh := Lib.hid (HGg.out.trans (hb.mono HGg.out.size))
    clear hb
    go_wp2
    go_ret
    exact ⟨rfl, HGh.out⟩
set_option maxHeartbeats 8000000 in
theorem parts_w4 (x : Int) (A : Option Addr) (n c a : Nat) (zs bs : List Int) (w : World) (hA : Nums w A n zs) (hB : Bytes w none 0 bs) (hd : 0 ≤ 0) (hdm : 0 ≤ 9223372036854775807) (ha : a ≤ 255) (_ : 0 ≤ 255) (_ : 0 ≤ 200)  :
    Calls Try.prog 7 #[.int .i64 x, .slice A n c, .int .u8 (a : Int), .slice none 0 0, .int .u8 (0 : Int)] w fun e w' => e = .returned (.bool true) ∧ Below w.heap.size w w' := by
  have h1 : ¬ (200 : Int) < (0 : Int) := by omega
  have hmin : min (0 : Int) (0 : Int) = (0 : Int) := by omega
  have hLow : Bytes w none (0) (bs.drop 0) := (by rw [List.drop_of_length_le (by rw [hB.len]; exact Nat.le_refl _)]; exact hB.take 0 (Nat.zero_le _))
  obtain ⟨ak, hak⟩ : ∃ ak, a + 0 = ak := ⟨_, rfl⟩
  have hakI : (a : Int) + (0 : Int) = (ak : Int) := by omega
  have hdn : doneN (0 : Int) 0 = 0 := by unfold doneN; rw [if_pos (by omega)]
  have hlf : leftB (0 : Int) 0 = 0 := by unfold leftB; rw [if_neg (by omega)]; rw [if_pos (by omega)]; omega
  have hpw : powE6 (0 : Int) 0 = 0 := by unfold powE6; rw [if_pos (by omega)]
  have hd1 : ∀ j, doneN (-1) j = j := fun j => by unfold doneN; rw [if_pos (by omega)]
  have hl1 : ∀ j, leftB (-1) j = -1 := fun j => by unfold leftB; rw [if_pos (by omega)]
  have hp1 : ∀ j, powE6 (-1) j = 0 := fun j => by unfold powE6; rw [if_pos (by omega)]
  have hfm : ∀ p : Nat, 512 ≤ p → a + 0 ≤ p ∧ ak + (0) ≤ p := fun p h => by omega
  have hsum : 0 + (0) = 0 := by omega
  have e1 := fun (p n1 c1 : Nat) A1 Z w' (h : Bytes w' A1 n1 Z) (h' : Bytes w' none 0 bs) hc1 hm1 => prgE_all (p : Int) A1 none n1 c1 0 0 Z bs 0 (a : Int) (-1) w' h h' hc1 hm1 hd hdm (by decide)
  have e2 := fun (p n1 c1 : Nat) A1 Z w' (h : Bytes w' A1 n1 Z) (h' : Bytes w' none 0 bs) hc1 hm1 => prgE_all (p : Int) A1 none n1 c1 0 0 Z bs 0 (a : Int) (0 : Int) w' h h' hc1 hm1 hd hdm (by omega)
  have e3 := fun (p n1 c1 : Nat) A1 Z w' (h : Bytes w' A1 n1 Z) (h' : Bytes w' none (0) (bs.drop 0)) hc1 hm1 => prgE_all (p : Int) A1 none n1 c1 (0) (0) Z (bs.drop 0) 0 (ak : Int) (-1) w' h h' hc1 hm1 (by omega) (by omega) (by decide)
  unfold GivesP at e1 e2 e3
  simp only [hd1, hl1, hp1, hdn, hlf, hpw] at e1 e2 e3
  have V1 := Lib.hid (wrap_nat a (by omega))
  have V2 := Lib.hid (iwrap_nat a (by omega))
  have V3 := Lib.hid (wrap_nat 0 (by omega))
  have V4 := Lib.hid (iwrap_nat 0 (by omega))
  have V5 := Lib.hid (wrap_nat ak (by omega))
  have V6 := Lib.hid (iwrap_nat ak (by omega))
  have HA := Lib.hid hA
  have HBB := Lib.hid hB
  have HLow := Lib.hid hLow
  have HFM := Lib.hid hfm
  have HAK := Lib.hid (And.intro hak hsum)
  have T1 := Lib.hid e1
  have T2 := Lib.hid e2
  have T3 := Lib.hid e3
  clear hA hB hLow hd hdm ha hdn hlf hpw hd1 hl1 hp1 hfm e1 e2 e3 hak hsum
  have ww1 := V1.out
  have ww2 := V2.out
  have ww3 := V3.out
  have ww4 := V4.out
  have ww5 := V5.out
  have ww6 := V6.out
  go_enter Try.func7, Try.ntmps7
  go_wp2_with fail
  refine (made_any x A n c zs _ HA.out).mono ?_
  rintro e w1 ⟨p, k, c1, A1, Z, rfl, hp, hk1, hk4, hy, hc1, hm1, hb⟩
  clear ww1 ww2 ww3 ww4 ww5 ww6
  obtain ⟨n1, hn1⟩ : ∃ n1, p * k = n1 := ⟨_, rfl⟩
  have hq0 : 512 ≤ p := by omega
  have hq1 : p ≤ 8192 := by omega
  have hpk : n1 % p = 0 := by rw [← hn1]; exact Nat.mul_mod_right _ _
  have hpd : n1 / p ≤ 8 := by rw [← hn1, Nat.mul_div_cancel_left _ (by omega)]; omega
  have hpos : 0 < n1 := by rw [← hn1]; exact Nat.mul_pos (by omega) hk1
  rw [hn1] at hy hc1
  rw [hn1]
  have hE1 : areE (p : Int) n1 0 (a : Int) ((0 : Nat) : Int) = 0 := areE_in hq0 hq1 hpk hpos hpd (HFM.out p hq0).1
  have hE2 : areE (p : Int) n1 0 (ak : Int) ((0 : Nat) : Int) = 0 := areE_in hq0 hq1 hpk hpos hpd (HFM.out p hq0).2
  have hf1 : fromE (p : Int) 0 (a : Int) = a := by unfold fromE; omega
  have hf2 : fromE (p : Int) 0 (ak : Int) = ak := by unfold fromE; omega
  have e1 := fun w' (h : Bytes w' A1 n1 Z) h' => T1.out p n1 c1 A1 Z w' h h' hc1 hm1
  have e2 := fun w' (h : Bytes w' A1 n1 Z) h' => T2.out p n1 c1 A1 Z w' h h' hc1 hm1
  have e3 := fun A4 c4 w' (h : Bytes w' A4 n1 (chgL Z a (prgG bs) 0)) h' hc4 hm4 => T3.out p n1 c4 A4 (chgL Z a (prgG bs) 0) w' h h' hc4 hm4
  have hj := parts_join Z bs a (0) (0)
  rw [HAK.out.1, Nat.add_zero] at hj
  simp only [hE1, hE2, hf1, hf2, hj, ifE_ok] at e1 e2 e3
  have hl1 : (chgL Z a (prgG bs) 0).length = n1 := by rw [chgL_len]; exact hy.len
  have hl2 : (chgL Z a (prgG bs) 0).length = n1 := by rw [chgL_len]; exact hy.len
  generalize chgL Z a (prgG bs) 0 = L1 at *
  have D1 := Lib.hid e1
  have D2 := Lib.hid e2
  have D3 := Lib.hid e3
  have HL := Lib.hid (And.intro hl1 hl2)
  have HBw := Lib.hid hb
  have HG0 := Lib.hid (Below.refl w.heap.size w)
  clear e1 e2 e3 hj hE1 hE2 hf1 hf2 hpk hpd hpos hn1 hp hk1 hk4 hc1 hm1 hq0 hq1 hl1 hl2
  have hbx := (Below.refl w1.heap.size w1).alloc (Nat.le_refl _) (.cells #[.int .i64 (p : Int), .slice A1 n1 c1] 24)
  have hbb := hb.trans (hbx.mono hb.size)
  have HY1 := Lib.hid (hy.below hbx)
  have HQ1 := Lib.hid hbb
  have HG1 := Lib.hid (HG0.out.trans (hbb.mono HG0.out.size))
  have HX1 := Lib.hid (Cs.new w1 24 [.int .i64 (p : Int), .slice A1 n1 c1])
  clear hb hbx hy hbb
  have ww1 := V1.out
  have ww2 := V2.out
  have ww3 := V3.out
  have ww4 := V4.out
  have ww5 := V5.out
  have ww6 := V6.out
  have HBB1 := Lib.hid (HBB.out.below HQ1.out)
  have u1 := HX1.out.cell 0
  have v1 := HX1.out.cell 1
  simp only [List.getElem?_cons_succ, List.getElem?_cons_zero] at u1 v1
  go_wp2_with fail
  refine (D1.out _ HY1.out HBB1.out).mono ?_
  rintro e w2 ⟨A2, n2, c2, rfl, hy, hk2, hm2, hb⟩
  obtain rfl : n2 = n1 := by rw [← hy.len]; exact HL.out.1
  have hbx := (Below.refl w2.heap.size w2).alloc (Nat.le_refl _) (.cells #[.int .i64 (p : Int), .slice A2 n2 c2] 24)
  have hbb := hb.trans (hbx.mono hb.size)
  have HY2 := Lib.hid (hy.below hbx)
  have HQ2 := Lib.hid hbb
  have HG2 := Lib.hid (HG1.out.trans (hbb.mono HG1.out.size))
  have HX2 := Lib.hid (Cs.new w2 24 [.int .i64 (p : Int), .slice A2 n2 c2])
  have hHX1 := (HX1.out.below hb HX1.out.lt).grow (.cells #[.int .i64 (p : Int), .slice A2 n2 c2] 24)
  clear hb hbx hy hbb
  clear HX1
  have HX1 := Lib.hid hHX1
  clear hHX1
  have HYf := Lib.hid (HY1.out.below HQ2.out)
  have HBB2 := Lib.hid (HBB1.out.below HQ2.out)
  clear u1 v1
  have u1 := HX1.out.cell 0
  have v1 := HX1.out.cell 1
  simp only [List.getElem?_cons_succ, List.getElem?_cons_zero] at u1 v1
  have u2 := HX2.out.cell 0
  have v2 := HX2.out.cell 1
  simp only [List.getElem?_cons_succ, List.getElem?_cons_zero] at u2 v2
  go_wp2_with fail
  refine (D2.out _ HYf.out HBB2.out).mono ?_
  rintro e w3 ⟨A3, n3, c3, rfl, hy, hk3, hm3, hb⟩
  obtain rfl : n3 = n2 := by rw [← hy.len]; exact HL.out.2
  have hbx := (Below.refl w3.heap.size w3).alloc (Nat.le_refl _) (.cells #[.int .i64 (p : Int), .slice A3 n3 c3] 24)
  have hbb := hb.trans (hbx.mono hb.size)
  have HY3 := Lib.hid (hy.below hbx)
  have HQ3 := Lib.hid hbb
  have HG3 := Lib.hid (HG2.out.trans (hbb.mono HG2.out.size))
  have HX3 := Lib.hid (Cs.new w3 24 [.int .i64 (p : Int), .slice A3 n3 c3])
  have hHX1 := (HX1.out.below hb HX1.out.lt).grow (.cells #[.int .i64 (p : Int), .slice A3 n3 c3] 24)
  have hHX2 := (HX2.out.below hb HX2.out.lt).grow (.cells #[.int .i64 (p : Int), .slice A3 n3 c3] 24)
  clear hb hbx hy hbb
  clear HX1
  have HX1 := Lib.hid hHX1
  clear hHX1
  clear HX2
  have HX2 := Lib.hid hHX2
  clear hHX2
  have HLow3 := Lib.hid (HLow.out.below HG3.out)
  clear u1 v1 u2 v2
  have u1 := HX1.out.cell 0
  have v1 := HX1.out.cell 1
  simp only [List.getElem?_cons_succ, List.getElem?_cons_zero] at u1 v1
  have u2 := HX2.out.cell 0
  have v2 := HX2.out.cell 1
  simp only [List.getElem?_cons_succ, List.getElem?_cons_zero] at u2 v2
  have u3 := HX3.out.cell 0
  have v3 := HX3.out.cell 1
  simp only [List.getElem?_cons_succ, List.getElem?_cons_zero] at u3 v3
  have HLd := Lib.hid (HLow3.out.below (Below.refl _ _).drew)
  have HYd := Lib.hid (HY3.out.below (Below.refl _ _).drew)
  have HX2d := Lib.hid HX2.out.drew
  have HYx := Lib.hid (((HY2.out.below HQ3.out)).below (Below.refl _ _).drew)
  have HGd := Lib.hid HG3.out.drew
  have HX3d := Lib.hid HX3.out.drew
  clear u1 v1 u2 v2 u3 v3
  go_wp2_with fail
  refine held_begin (by kernel_rfl) ?_
  refine held_take (i := 0) (v := ?_) rfl rfl (by kernel_rfl) (by kernel_rfl) (by kernel_rfl) (fun _ _ _ h => h) (by rfl) ?_ ?_
  rotate_left
  · intro W hW
    have z0 := (HX3d.out.below hW HX3d.out.lt).cell 0
    have y0 := (HX3d.out.below hW HX3d.out.lt).cell 1
    simp only [List.getElem?_cons_succ, List.getElem?_cons_zero] at z0 y0
    go_simp
    try with_reducible rfl
  simp only [Act.put, List.setIfInBounds_toArray, List.set_cons_zero, List.set_cons_succ]
  refine held_take (i := 1) (v := ?_) rfl rfl (by kernel_rfl) (by kernel_rfl) (by kernel_rfl) (fun _ _ _ h => h) (by rfl) ?_ ?_
  rotate_left
  · intro W hW
    go_simp
    try with_reducible rfl
  simp only [Act.put, List.setIfInBounds_toArray, List.set_cons_zero, List.set_cons_succ]
  refine held_take (i := 2) (v := ?_) rfl rfl (by kernel_rfl) (by kernel_rfl) (by kernel_rfl) (fun _ _ _ h => h) (by rfl) ?_ ?_
  rotate_left
  · intro W hW
    go_simp
    try with_reducible rfl
  simp only [Act.put, List.setIfInBounds_toArray, List.set_cons_zero, List.set_cons_succ]
  refine held_take (i := 3) (v := ?_) rfl rfl (by kernel_rfl) (by kernel_rfl) (by kernel_rfl) (fun _ _ _ h => h) (by rfl) ?_ ?_
  rotate_left
  · intro W hW
    go_simp
    try with_reducible rfl
  simp only [Act.put, List.setIfInBounds_toArray, List.set_cons_zero, List.set_cons_succ]
  refine held_take (i := 4) (v := ?_) rfl rfl (by kernel_rfl) (by kernel_rfl) (by kernel_rfl) (fun _ _ _ h => h) (by rfl) ?_ ?_
  rotate_left
  · intro W hW
    go_simp
    try with_reducible rfl
  simp only [Act.put, List.setIfInBounds_toArray, List.set_cons_zero, List.set_cons_succ]
  refine held_take (i := 5) (v := ?_) rfl rfl (by kernel_rfl) (by kernel_rfl) (by kernel_rfl) (fun _ _ _ h => h) (by rfl) ?_ ?_
  rotate_left
  · intro W hW
    go_simp
    try with_reducible rfl
  simp only [Act.put, List.setIfInBounds_toArray, List.set_cons_zero, List.set_cons_succ]
  refine held_take (i := 6) (v := ?_) rfl rfl (by kernel_rfl) (by kernel_rfl) (by kernel_rfl) (fun _ _ _ h => h) (by rfl) ?_ ?_
  rotate_left
  · intro W hW
    go_simp
    try with_reducible rfl
  simp only [Act.put, List.setIfInBounds_toArray, List.set_cons_zero, List.set_cons_succ]
  refine held_take (i := 7) (v := ?_) rfl rfl (by kernel_rfl) (by kernel_rfl) (by kernel_rfl) (fun _ _ _ h => h) (by rfl) ?_ ?_
  rotate_left
  · intro W hW
    go_simp
    try with_reducible rfl
  simp only [Act.put, List.setIfInBounds_toArray, List.set_cons_zero, List.set_cons_succ]
  refine hs_two (i := 8) (j := 13) (by kernel_rfl) rfl rfl ?_ ?_
  · intro K' hK
    go_simp
    refine (D3.out _ _ _ HYd.out HLd.out hk3 hm3).mono ?_
    rintro e w4 ⟨A4, n4, c4, rfl, hy4, _, _, hb⟩
    have hl4 := hy4.len
    obtain rfl : n4 = n3 := by rw [← hl4]; exact HL.out.1
    have HY4 := Lib.hid hy4
    have HX2e := Lib.hid (HX2d.out.below hb HX2d.out.lt)
    have HYxe := Lib.hid (HYx.out.below hb)
    have HGe := Lib.hid (HGd.out.trans (hb.mono HGd.out.size))
    refine hK.out _ _ hb ?_
    clear hK K'
    refine held_from (fun W h => hb.trans (h.mono hb.size)) ?_
    clear hb hy4 hl4
    refine held_take (i := 9) (v := ?_) rfl rfl (by kernel_rfl) (by kernel_rfl) (by kernel_rfl) (fun _ _ _ h => h) (by rfl) ?_ ?_
    rotate_left
    · intro W hW
      go_simp
      try with_reducible rfl
    simp only [Act.put, List.setIfInBounds_toArray, List.set_cons_zero, List.set_cons_succ]
    refine held_take (i := 10) (v := ?_) rfl rfl (by kernel_rfl) (by kernel_rfl) (by kernel_rfl) (fun _ _ _ h => h) (by rfl) ?_ ?_
    rotate_left
    · intro W hW
      go_simp
      try with_reducible rfl
    simp only [Act.put, List.setIfInBounds_toArray, List.set_cons_zero, List.set_cons_succ]
    refine held_take (i := 11) (v := ?_) rfl rfl (by kernel_rfl) (by kernel_rfl) (by kernel_rfl) (fun _ _ _ h => h) (by rfl) ?_ ?_
    rotate_left
    · intro W hW
      go_simp
      try with_reducible rfl
    simp only [Act.put, List.setIfInBounds_toArray, List.set_cons_zero, List.set_cons_succ]
    refine held_take (i := 12) (v := ?_) rfl rfl (by kernel_rfl) (by kernel_rfl) (by kernel_rfl) (fun _ _ _ h => h) (by rfl) ?_ ?_
    rotate_left
    · intro W hW
      go_simp
      try with_reducible rfl
    simp only [Act.put, List.setIfInBounds_toArray, List.set_cons_zero, List.set_cons_succ]
    have hS := (Below.refl w4.heap.size w4).alloc (Nat.le_refl _) (.cells #[.int .i64 0, .slice none 0 0] 24)
    refine hs_call (i := 13) (by kernel_rfl) rfl (fun K' hK => ?_)
    go_simp
    refine hK.out _ _ hS ?_
    clear hK K'
    have hq := Cs.new w4 24 [.int .i64 0, .slice none 0 0]
    have q0 := hq.cell 0
    have q1 := hq.cell 1
    have f0 := hq.free 0
    have f1 := hq.free 1
    simp only [List.getElem?_cons_succ, List.getElem?_cons_zero] at q0 q1
    refine hs_call (i := 14) (by kernel_rfl) rfl (fun K' hK => ?_)
    go_simp
    have hS4 := (Below.refl w4.heap.size w4).alloc (Nat.le_refl _) (.cells #[.int .i64 (p : Int), .slice A4 n4 c4] 24)
    refine hK.out _ _ hS4 ?_
    clear hK K' q0 q1 f0 f1 hS hq
    refine hs_take (i := 15) (v := ?_) rfl rfl (by kernel_rfl) (by kernel_rfl) (by kernel_rfl) (fun _ _ _ h => h) (by rfl) hS4 ?_ ?_
    rotate_left
    · intro W' hW'
      go_simp
      try with_reducible rfl
    simp only [Act.put, List.setIfInBounds_toArray, List.set_cons_zero, List.set_cons_succ]
    refine hs_take (i := 16) (v := ?_) rfl rfl (by kernel_rfl) (by kernel_rfl) (by kernel_rfl) (fun _ _ _ h => h) (by rfl) hS4 ?_ ?_
    rotate_left
    · intro W' hW'
      go_simp
      try with_reducible rfl
    simp only [Act.put, List.setIfInBounds_toArray, List.set_cons_zero, List.set_cons_succ]
    refine wpAnyH_done (by kernel_rfl) ?_ _
    have HX2f := HX2e.out.grow (.cells #[.int .i64 (p : Int), .slice A4 n4 c4] 24)
    have HX4f := Cs.new w4 24 [.int .i64 (p : Int), .slice A4 n4 c4]
    have u2 := HX2f.cell 0
    have v2 := HX2f.cell 1
    have u4 := HX4f.cell 0
    have v4 := HX4f.cell 1
    simp only [List.getElem?_cons_succ, List.getElem?_cons_zero] at u2 v2 u4 v4
    have HYa := Lib.hid (HYxe.out.below hS4)
    have HYb := Lib.hid (HY4.out.below hS4)
    have HGf := Lib.hid (HGe.out.trans (hS4.mono HGe.out.size))
    clear hS4 HX2f HX4f
    go_wp2_with fail
    refine (same_any (p : Int) A2 A4 n4 c2 n4 c4 L1 _ HYa.out HYb.out).mono ?_
    rintro e w5 ⟨rfl, hb⟩
    have HGg := Lib.hid (HGf.out.trans (hb.mono HGf.out.size))
    clear hb
    go_wp2_with fail
    refine (awake7_any _).mono ?_
    rintro e w6 ⟨rfl, hb⟩
    have HGh := Lib.hid (HGg.out.trans (hb.mono HGg.out.size))
    clear hb
    go_wp2
    go_ret
    exact ⟨rfl, HGh.out⟩
  · intro K' hK
    go_simp
    have hS : Below (w3.alloc (.cells #[.int .i64 (p : Int), .slice A3 n3 c3] 24)).drew.heap.size (w3.alloc (.cells #[.int .i64 (p : Int), .slice A3 n3 c3] 24)).drew ((w3.alloc (.cells #[.int .i64 (p : Int), .slice A3 n3 c3] 24)).alloc (.cells #[.int .i64 0, .slice none 0 0] 24)).drew := (Below.refl _ (w3.alloc (.cells #[.int .i64 (p : Int), .slice A3 n3 c3] 24)).drew).alloc (Nat.le_refl _) (.cells #[.int .i64 0, .slice none 0 0] 24)
    have HYz := Lib.hid (HYd.out.below hS)
    have HLz := Lib.hid (HLd.out.below hS)
    have HYxz := Lib.hid (HYx.out.below hS)
    have HX2z := Lib.hid (HX2d.out.below hS HX2d.out.lt)
    have HZz := Lib.hid ((Cs.new2 w3 (.cells #[.int .i64 (p : Int), .slice A3 n3 c3] 24) 24 [.int .i64 0, .slice none 0 0]).drew)
    have HGz := Lib.hid (HGd.out.trans (hS.mono HGd.out.size))
    have HSz := Lib.hid hS
    have hbw : w.heap.size ≤ w3.heap.size + 1 := by have h9 := HGd.out.size; simpa using h9
    have hne : w2.heap.size ≠ w3.heap.size + 1 := by have h9 := HX2d.out.lt; simp at h9; omega
    have HNE := Lib.hid (And.intro hbw hne)
    refine hK.out _ _ hS ?_
    clear hK K' hS hbw hne
    refine hs_call (i := 8) (by kernel_rfl) rfl (fun K' hK => ?_)
    go_simp
    refine (D3.out _ _ _ HYz.out HLz.out hk3 hm3).mono ?_
    rintro e w4 ⟨A4, n4, c4, rfl, hy4, _, _, hb⟩
    have hl4 := hy4.len
    obtain rfl : n4 = n3 := by rw [← hl4]; exact HL.out.1
    have HY4 := Lib.hid hy4
    have HX2e := Lib.hid (HX2z.out.below hb HX2z.out.lt)
    have HYxe := Lib.hid (HYxz.out.below hb)
    have HZ4 := Lib.hid (HZz.out.below hb HZz.out.lt)
    have HGe := Lib.hid (HGz.out.trans (hb.mono HGz.out.size))
    have HS4 := Lib.hid (HSz.out.trans (hb.mono HSz.out.size))
    refine hK.out _ _ HS4.out ?_
    clear hK K' hb hy4 hl4
    refine hs_take (i := 9) (v := ?_) rfl rfl (by kernel_rfl) (by kernel_rfl) (by kernel_rfl) (fun _ _ _ h => h) (by rfl) HS4.out ?_ ?_
    rotate_left
    · intro W' hW'
      go_simp
      try with_reducible rfl
    simp only [Act.put, List.setIfInBounds_toArray, List.set_cons_zero, List.set_cons_succ]
    refine hs_take (i := 10) (v := ?_) rfl rfl (by kernel_rfl) (by kernel_rfl) (by kernel_rfl) (fun _ _ _ h => h) (by rfl) HS4.out ?_ ?_
    rotate_left
    · intro W' hW'
      go_simp
      try with_reducible rfl
    simp only [Act.put, List.setIfInBounds_toArray, List.set_cons_zero, List.set_cons_succ]
    refine hs_take (i := 11) (v := ?_) rfl rfl (by kernel_rfl) (by kernel_rfl) (by kernel_rfl) (fun _ _ _ h => h) (by rfl) HS4.out ?_ ?_
    rotate_left
    · intro W' hW'
      go_simp
      try with_reducible rfl
    simp only [Act.put, List.setIfInBounds_toArray, List.set_cons_zero, List.set_cons_succ]
    refine hs_take (i := 12) (v := ?_) rfl rfl (by kernel_rfl) (by kernel_rfl) (by kernel_rfl) (fun _ _ _ h => h) (by rfl) HS4.out ?_ ?_
    rotate_left
    · intro W' hW'
      go_simp
      try with_reducible rfl
    simp only [Act.put, List.setIfInBounds_toArray, List.set_cons_zero, List.set_cons_succ]
    have q0 := HZ4.out.cell 0
    have q1 := HZ4.out.cell 1
    have f0 := HZ4.out.free 0
    have f1 := HZ4.out.free 1
    simp only [List.getElem?_cons_succ, List.getElem?_cons_zero] at q0 q1
    have hS5 := (HS4.out.setCell (p := ⟨w3.heap.size + 1, 0, none⟩) (by simp) (.int .i64 (p : Int))).setCell (p := ⟨w3.heap.size + 1, 1, none⟩) (by simp) (.slice A4 n4 c4)
    have HYb := Lib.hid (HY4.out.setTwo (.int .i64 (p : Int)) (.slice A4 n4 c4) _ _ q0 q1 (fun z e => by cases e) (fun z e => by cases e))
    have HYa := Lib.hid (HYxe.out.setTwo (.int .i64 (p : Int)) (.slice A4 n4 c4) _ _ q0 q1 (fun z e => by cases e) (fun z e => by cases e))
    refine hs_call (i := 14) (by kernel_rfl) rfl (fun K' hK => ?_)
    go_simp
    refine hK.out _ _ hS5 ?_
    clear hK K' q0 q1 f0 f1
    refine hs_take (i := 15) (v := ?_) rfl rfl (by kernel_rfl) (by kernel_rfl) (by kernel_rfl) (fun _ _ _ h => h) (by rfl) hS5 ?_ ?_
    rotate_left
    · intro W' hW'
      go_simp
      try with_reducible rfl
    simp only [Act.put, List.setIfInBounds_toArray, List.set_cons_zero, List.set_cons_succ]
    refine hs_take (i := 16) (v := ?_) rfl rfl (by kernel_rfl) (by kernel_rfl) (by kernel_rfl) (fun _ _ _ h => h) (by rfl) hS5 ?_ ?_
    rotate_left
    · intro W' hW'
      go_simp
      try with_reducible rfl
    simp only [Act.put, List.setIfInBounds_toArray, List.set_cons_zero, List.set_cons_succ]
    refine wpAnyH_done (by kernel_rfl) ?_ _
    have HX2f := (HX2e.out.far_set 0 (.int .i64 (p : Int)) HNE.out.2).far_set 1 (.slice A4 n4 c4) HNE.out.2
    have HX4f := (HZ4.out.set_ 0 (.int .i64 (p : Int))).set_ 1 (.slice A4 n4 c4)
    have u2 := HX2f.cell 0
    have v2 := HX2f.cell 1
    have u4 := HX4f.cell 0
    have v4 := HX4f.cell 1
    simp only [List.set_cons_zero, List.set_cons_succ, List.getElem?_cons_succ, List.getElem?_cons_zero] at u2 v2 u4 v4
    have HGf := Lib.hid ((HGe.out.setCell (p := ⟨w3.heap.size + 1, 0, none⟩) HNE.out.1 (.int .i64 (p : Int))).setCell (p := ⟨w3.heap.size + 1, 1, none⟩) HNE.out.1 (.slice A4 n4 c4))
    clear hS5 HX2f HX4f
    go_wp2_with fail
    refine (same_any (p : Int) A2 A4 n4 c2 n4 c4 L1 _ HYa.out HYb.out).mono ?_
    rintro e w5 ⟨rfl, hb⟩
    have HGg := Lib.hid (HGf.out.trans (hb.mono HGf.out.size))
    clear hb
    go_wp2_with fail
    refine (awake7_any _).mono ?_
    rintro e w6 ⟨rfl, hb⟩
    have HGh := Lib.hid (HGg.out.trans (hb.mono HGg.out.size))
    clear hb
    go_wp2
    go_ret
    exact ⟨rfl, HGh.out⟩
theorem parts_law (x : Int) (A B : Option Addr) (n c m d a bu : Nat) (zs bs : List Int) (w : World) (hA : Nums w A n zs) (hB : Bytes w B m bs) (hd : m ≤ d) (hdm : d ≤ 9223372036854775807) (h0 : B = none → d = 0) (ha : a ≤ 255) (hbu : bu ≤ 255) :
    Calls Try.prog 7 #[.int .i64 x, .slice A n c, .int .u8 (a : Int), .slice B m d, .int .u8 (bu : Int)] w fun e w' => e = .returned (.bool true) ∧ Below w.heap.size w w' := by
  by_cases h200 : 200 < m
  · exact parts_long x A B n c m d a bu w h200
  · rcases B with _ | B
    · obtain rfl := h0 rfl
      obtain rfl : m = 0 := by omega
      rcases Nat.eq_zero_or_pos bu with rfl | h
      · exact parts_w4 x A n c a zs bs w hA hB (Nat.le_refl _) hdm ha (by omega) (by omega)
      · exact parts_v4 x A n c a bu zs bs w hA hB (Nat.le_refl _) hdm ha hbu (by omega) h
    · by_cases h1 : bu < m
      · exact parts_v1 x A B n c m d a bu zs bs w hA hB hd hdm ha hbu (by omega) h1
      · by_cases h2 : m < bu
        · by_cases h3 : m < d
          · exact parts_v2 x A B n c m d a bu zs bs w hA hB hd hdm ha hbu (by omega) h2 h3
          · obtain rfl : d = m := by omega
            exact parts_v3 x A B n c d a bu zs bs w hA hB hd hdm ha hbu (by omega) h2
        · obtain rfl : bu = m := by omega
          by_cases h3 : bu < d
          · exact parts_w2 x A B n c bu d a zs bs w hA hB hd hdm ha hbu (by omega) h3
          · obtain rfl : d = bu := by omega
            exact parts_w3 x A B n c d a zs bs w hA hB hd hdm ha hbu (by omega)
end Go.Proofs.Ytgoajnljgbcmdaa
