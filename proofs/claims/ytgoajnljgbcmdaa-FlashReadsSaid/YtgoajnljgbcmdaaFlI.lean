/- Layer 7: the laws FlashPrograms, FlashErases and FlashReads. -/
import Derived.Test.YtgoajnljgbcmdaaFlH
namespace Go.Proofs.Ytgoajnljgbcmdaa
open Go.RowKit
set_option maxRecDepth 100000

set_option maxHeartbeats 1000000 in
theorem programs_long (x pg a bu sx : Int) (A B : Option Addr) (n c m d : Nat) (w : World) (h : 700 < m) :
    Calls Try.prog 5 #[.int .i64 x, .slice A n c, .int .i64 pg, .int .i64 a, .slice B m d, .int .i64 bu, .int .i64 sx] w fun e w' => e = .returned (.bool true) ∧ Below w.heap.size w w' := by
  have h1 : (700 : Int) < (m : Int) := by omega
  clear h
  go_enter Try.func5, Try.ntmps5
  go_wp2_with fail
  refine (awake7_any _).mono ?_
  rintro e w1 ⟨rfl, hb⟩
  have HB1 := Lib.hid hb
  clear hb
  go_wp2
  go_ret
  exact ⟨rfl, HB1.out⟩
set_option maxHeartbeats 4000000 in
theorem programs_law (x pg a bu sx : Int) (A B : Option Addr) (n c m d : Nat) (zs bs : List Int) (w : World) (hA : Nums w A n zs) (hB : Bytes w B m bs) (hd : m ≤ d) (hdm : d ≤ 9223372036854775807) (hbu : bu ≤ 9223372036854775807) (ha : a ≤ 9223372036854775807) :
    Calls Try.prog 5 #[.int .i64 x, .slice A n c, .int .i64 pg, .int .i64 a, .slice B m d, .int .i64 bu, .int .i64 sx] w fun e w' => e = .returned (.bool true) ∧ Below w.heap.size w w' := by
  by_cases h700 : 700 < m
  · exact programs_long x pg a bu sx A B n c m d w h700
  have h1 : ¬ (700 : Int) < (m : Int) := by omega
  have HA := Lib.hid hA
  have HBB := Lib.hid hB
  have HD := Lib.hid (And.intro hd (And.intro hdm (And.intro hbu ha)))
  have HY : Hid (bu % 256 - 20 ≤ 9223372036854775807) := Lib.hid (by omega)
  clear hA hB hd hdm hbu ha h700
  go_enter Try.func5, Try.ntmps5
  go_wp2_with fail
  refine (made_any x A n c zs _ HA.out).mono ?_
  rintro e w1 ⟨p, k, c1, A1, Z, rfl, hp, hk1, hk4, hy1, hc1, hm1, hb1⟩
  have HB1 := Lib.hid hb1
  have HY1 := Lib.hid hy1
  have hpk0 : 0 < p * k := Nat.mul_pos (by omega) hk1
  have hpk1 : p * k ≤ 3000 := Nat.le_trans (Nat.mul_le_mul (show p ≤ 600 by omega) hk4) (by decide)
  obtain ⟨N1, hN1⟩ : ∃ N1, p * k = N1 := ⟨_, rfl⟩
  rw [hN1] at hpk0 hpk1 hc1
  have HY1' : Hid (Bytes w1 A1 N1 Z) := Lib.hid (by rw [← hN1]; exact hy1)
  rw [hN1]
  have HP0 := Lib.hid (And.intro hpk0 (And.intro hpk1 (And.intro hc1 hm1)))
  clear hp hk1 hk4 hy1 hc1 hm1 hb1 hpk0 hpk1 hN1 HY1
  go_wp2_with fail
  refine (spoil_any (p : Int) sx A1 N1 c1 Z _ HY1'.out HP0.out.1 HP0.out.2.1 HP0.out.2.2.1 HP0.out.2.2.2).mono ?_
  rintro e w2 ⟨P, A2, n2, c2, Z2, rfl, hy2, hn2, hc2, hm2, hb2⟩
  have hbx := (Below.refl w2.heap.size w2).alloc (Nat.le_refl _) (.cells #[.int .i64 P, .slice A2 n2 c2] 24)
  have HX := Lib.hid (Cs.new w2 24 [.int .i64 P, .slice A2 n2 c2])
  have HB2 := Lib.hid (HB1.out.trans ((hb2.trans (hbx.mono hb2.size)).mono HB1.out.size))
  have HY2 := Lib.hid (hy2.below hbx)
  have HG := Lib.hid (Below.refl (w2.alloc (.cells #[.int .i64 P, .slice A2 n2 c2] 24)).heap.size (w2.alloc (.cells #[.int .i64 P, .slice A2 n2 c2] 24)))
  have k0 := HX.out.cell 0
  have k1 := HX.out.cell 1
  simp only [List.getElem?_cons_succ, List.getElem?_cons_zero] at k0 k1
  have HC2 := Lib.hid (And.intro hc2 hm2)
  clear hbx hb2 hy2 hn2 hc2 hm2
  go_wp2_with fail
  refine (programs_any P A2 B n2 c2 m d Z2 bs (pg % 4) (a % 512) (bu % 256 - 20) _ HY2.out (HBB.out.below HB2.out) HC2.out.1 HC2.out.2 HD.out.1 HD.out.2.1 HY.out (by omega)).mono ?_
  rintro e w3 ⟨rfl, hb⟩
  have HG3 := Lib.hid (HG.out.trans (hb.mono HG.out.size))
  clear hb
  have hx3 := HX.out.below HG3.out HX.out.lt
  clear k0 k1
  have k0 := hx3.cell 0
  have k1 := hx3.cell 1
  simp only [List.getElem?_cons_succ, List.getElem?_cons_zero] at k0 k1
  clear hx3
  go_wp2_with fail
  refine (programs_any P A2 B n2 c2 m d Z2 bs pg a bu _ (HY2.out.below HG3.out) ((HBB.out.below HB2.out).below HG3.out) HC2.out.1 HC2.out.2 HD.out.1 HD.out.2.1 HD.out.2.2.1 HD.out.2.2.2).mono ?_
  rintro e w4 ⟨rfl, hb⟩
  have HG4 := Lib.hid (HG3.out.trans (hb.mono HG3.out.size))
  clear hb
  go_wp2_with fail
  refine (awake7_any _).mono ?_
  rintro e w5 ⟨rfl, hb⟩
  have HG5 := Lib.hid (HG4.out.trans (hb.mono HG4.out.size))
  have HBE := Lib.hid (HB2.out.trans (HG5.out.mono HB2.out.size))
  clear hb
  go_wp2
  go_ret
  exact ⟨rfl, HBE.out⟩
set_option maxHeartbeats 4000000 in
theorem erases_law (x pg bu sx : Int) (A : Option Addr) (n c : Nat) (zs : List Int) (w : World) (hA : Nums w A n zs) (hbu : bu ≤ 9223372036854775807) :
    Calls Try.prog 6 #[.int .i64 x, .slice A n c, .int .i64 pg, .int .i64 bu, .int .i64 sx] w fun e w' => e = .returned (.bool true) ∧ Below w.heap.size w w' := by
  have HA := Lib.hid hA
  have HD := Lib.hid hbu
  have HY : Hid (bu % 1024 - 20 ≤ 9223372036854775807) := Lib.hid (by omega)
  clear hA hbu
  go_enter Try.func6, Try.ntmps6
  go_wp2_with fail
  refine (made_any x A n c zs _ HA.out).mono ?_
  rintro e w1 ⟨p, k, c1, A1, Z, rfl, hp, hk1, hk4, hy1, hc1, hm1, hb1⟩
  have HB1 := Lib.hid hb1
  have HY1 := Lib.hid hy1
  have hpk0 : 0 < p * k := Nat.mul_pos (by omega) hk1
  have hpk1 : p * k ≤ 3000 := Nat.le_trans (Nat.mul_le_mul (show p ≤ 600 by omega) hk4) (by decide)
  obtain ⟨N1, hN1⟩ : ∃ N1, p * k = N1 := ⟨_, rfl⟩
  rw [hN1] at hpk0 hpk1 hc1
  have HY1' : Hid (Bytes w1 A1 N1 Z) := Lib.hid (by rw [← hN1]; exact hy1)
  rw [hN1]
  have HP0 := Lib.hid (And.intro hpk0 (And.intro hpk1 (And.intro hc1 hm1)))
  clear hp hk1 hk4 hy1 hc1 hm1 hb1 hpk0 hpk1 hN1 HY1
  go_wp2_with fail
  refine (spoil_any (p : Int) sx A1 N1 c1 Z _ HY1'.out HP0.out.1 HP0.out.2.1 HP0.out.2.2.1 HP0.out.2.2.2).mono ?_
  rintro e w2 ⟨P, A2, n2, c2, Z2, rfl, hy2, hn2, hc2, hm2, hb2⟩
  have hbx := (Below.refl w2.heap.size w2).alloc (Nat.le_refl _) (.cells #[.int .i64 P, .slice A2 n2 c2] 24)
  have HX := Lib.hid (Cs.new w2 24 [.int .i64 P, .slice A2 n2 c2])
  have HB2 := Lib.hid (HB1.out.trans ((hb2.trans (hbx.mono hb2.size)).mono HB1.out.size))
  have HY2 := Lib.hid (hy2.below hbx)
  have HG := Lib.hid (Below.refl (w2.alloc (.cells #[.int .i64 P, .slice A2 n2 c2] 24)).heap.size (w2.alloc (.cells #[.int .i64 P, .slice A2 n2 c2] 24)))
  have k0 := HX.out.cell 0
  have k1 := HX.out.cell 1
  simp only [List.getElem?_cons_succ, List.getElem?_cons_zero] at k0 k1
  have HC2 := Lib.hid (And.intro hc2 hm2)
  clear hbx hb2 hy2 hn2 hc2 hm2
  go_wp2_with fail
  refine (erases_any P A2 n2 c2 Z2 (pg % 4) (bu % 1024 - 20) _ HY2.out HC2.out.1 HC2.out.2 HY.out).mono ?_
  rintro e w3 ⟨rfl, hb⟩
  have HG3 := Lib.hid (HG.out.trans (hb.mono HG.out.size))
  clear hb
  have hx3 := HX.out.below HG3.out HX.out.lt
  clear k0 k1
  have k0 := hx3.cell 0
  have k1 := hx3.cell 1
  simp only [List.getElem?_cons_succ, List.getElem?_cons_zero] at k0 k1
  clear hx3
  go_wp2_with fail
  refine (erases_any P A2 n2 c2 Z2 pg bu _ (HY2.out.below HG3.out) HC2.out.1 HC2.out.2 HD.out).mono ?_
  rintro e w4 ⟨rfl, hb⟩
  have HG4 := Lib.hid (HG3.out.trans (hb.mono HG3.out.size))
  clear hb
  go_wp2_with fail
  refine (awake7_any _).mono ?_
  rintro e w5 ⟨rfl, hb⟩
  have HG5 := Lib.hid (HG4.out.trans (hb.mono HG4.out.size))
  have HBE := Lib.hid (HB2.out.trans (HG5.out.mono HB2.out.size))
  clear hb
  go_wp2
  go_ret
  exact ⟨rfl, HBE.out⟩
set_option maxHeartbeats 4000000 in
theorem reads_law (x pg a kx sx : Int) (A : Option Addr) (n c : Nat) (zs : List Int) (w : World) (hA : Nums w A n zs) (ha : a ≤ 9223372036854775807) :
    Calls Try.prog 4 #[.int .i64 x, .slice A n c, .int .i64 pg, .int .i64 a, .int .i64 kx, .int .i64 sx] w fun e w' => e = .returned (.bool true) ∧ Below w.heap.size w w' := by
  have HA := Lib.hid hA
  have HAA := Lib.hid ha
  clear hA ha
  go_enter Try.func4, Try.ntmps4
  go_wp2_with fail
  refine (made_any x A n c zs _ HA.out).mono ?_
  rintro e w1 ⟨p, k, c1, A1, Z, rfl, hp, hk1, hk4, hy1, hc1, hm1, hb1⟩
  have HB1 := Lib.hid hb1
  have HY1 := Lib.hid hy1
  have hpk0 : 0 < p * k := Nat.mul_pos (by omega) hk1
  have hpk1 : p * k ≤ 3000 := Nat.le_trans (Nat.mul_le_mul (show p ≤ 600 by omega) hk4) (by decide)
  obtain ⟨N1, hN1⟩ : ∃ N1, p * k = N1 := ⟨_, rfl⟩
  rw [hN1] at hpk0 hpk1 hc1
  have HY1' : Hid (Bytes w1 A1 N1 Z) := Lib.hid (by rw [← hN1]; exact hy1)
  rw [hN1]
  have HP0 := Lib.hid (And.intro hpk0 (And.intro hpk1 (And.intro hc1 hm1)))
  clear hp hk1 hk4 hy1 hc1 hm1 hb1 hpk0 hpk1 hN1 HY1
  go_wp2_with fail
  refine (spoil_any (p : Int) sx A1 N1 c1 Z _ HY1'.out HP0.out.1 HP0.out.2.1 HP0.out.2.2.1 HP0.out.2.2.2).mono ?_
  rintro e w2 ⟨P, A2, n2, c2, Z2, rfl, hy2, hn2, hc2, hm2, hb2⟩
  have hbx := (Below.refl w2.heap.size w2).alloc (Nat.le_refl _) (.cells #[.int .i64 P, .slice A2 n2 c2] 24)
  have HX := Lib.hid (Cs.new w2 24 [.int .i64 P, .slice A2 n2 c2])
  have HB2 := Lib.hid (HB1.out.trans ((hb2.trans (hbx.mono hb2.size)).mono HB1.out.size))
  have HY2 := Lib.hid (hy2.below hbx)
  have HG := Lib.hid (Below.refl (w2.alloc (.cells #[.int .i64 P, .slice A2 n2 c2] 24)).heap.size (w2.alloc (.cells #[.int .i64 P, .slice A2 n2 c2] 24)))
  have k0 := HX.out.cell 0
  have k1 := HX.out.cell 1
  simp only [List.getElem?_cons_succ, List.getElem?_cons_zero] at k0 k1
  have HC2 := Lib.hid (And.intro hc2 hm2)
  clear hbx hb2 hy2 hn2 hc2 hm2
  have e1 := fun w' (h : Bytes w' A2 n2 Z2) => readE_all P A2 n2 c2 Z2 (pg % 8 - 1) (a % 1024 - 5) (kx % 1024 - 5) w' h HC2.out.1 HC2.out.2
  have e2 := fun w' (h : Bytes w' A2 n2 Z2) => readR_all P A2 n2 c2 Z2 (pg % 8 - 1) (a % 1024 - 5) (kx % 1024 - 5) w' h HC2.out.1 HC2.out.2
  have e3 := fun w' (h : Bytes w' A2 n2 Z2) => readE_all P A2 n2 c2 Z2 pg a kx w' h HC2.out.1 HC2.out.2 HAA.out
  have e4 := fun w' (h : Bytes w' A2 n2 Z2) => readR_all P A2 n2 c2 Z2 pg a kx w' h HC2.out.1 HC2.out.2
  generalize ifE (areE P n2 (pg % 8 - 1) (a % 1024 - 5) (kx % 1024 - 5)) (rdL Z2 (fromE P (pg % 8 - 1) (a % 1024 - 5)) (kx % 1024 - 5).toNat) [] = L1 at *
  generalize ifE (areE P n2 pg a kx) (rdL Z2 (fromE P pg a) kx.toNat) [] = L2 at *
  generalize areE P n2 (pg % 8 - 1) (a % 1024 - 5) (kx % 1024 - 5) = E1 at *
  generalize areE P n2 pg a kx = E2 at *
  have D1 := Lib.hid e1
  have D2 := Lib.hid e2
  have D3 := Lib.hid e3
  have D4 := Lib.hid e4
  clear e1 e2 e3 e4
  go_wp2_with fail
  refine (D1.out _ HY2.out).mono ?_
  rintro e w3 ⟨R3, r3, q3, rfl, hy, _, _, hb⟩
  have HG3 := Lib.hid (HG.out.trans (hb.mono HG.out.size))
  have HR3 := Lib.hid hy
  have HS3 := Lib.hid hb
  clear hb hy
  have hx3 := HX.out.below HG3.out HX.out.lt
  clear k0 k1
  have k0 := hx3.cell 0
  have k1 := hx3.cell 1
  simp only [List.getElem?_cons_succ, List.getElem?_cons_zero] at k0 k1
  clear hx3
  go_wp2_with fail
  refine (D2.out _ (HY2.out.below HG3.out)).mono ?_
  rintro e w4 ⟨R4, r4, q4, rfl, hy, _, _, hb⟩
  have HG4 := Lib.hid (HG3.out.trans (hb.mono HG3.out.size))
  have HR4 := Lib.hid hy
  have HS4 := Lib.hid hb
  clear hb hy
  have hx4 := HX.out.below HG4.out HX.out.lt
  clear k0 k1
  have k0 := hx4.cell 0
  have k1 := hx4.cell 1
  simp only [List.getElem?_cons_succ, List.getElem?_cons_zero] at k0 k1
  clear hx4
  go_wp2_with fail
  refine (D3.out _ (HY2.out.below HG4.out)).mono ?_
  rintro e w5 ⟨R5, r5, q5, rfl, hy, _, _, hb⟩
  have HG5 := Lib.hid (HG4.out.trans (hb.mono HG4.out.size))
  have HR5 := Lib.hid hy
  have HS5 := Lib.hid hb
  clear hb hy
  have hx5 := HX.out.below HG5.out HX.out.lt
  clear k0 k1
  have k0 := hx5.cell 0
  have k1 := hx5.cell 1
  simp only [List.getElem?_cons_succ, List.getElem?_cons_zero] at k0 k1
  clear hx5
  go_wp2_with fail
  refine (D4.out _ (HY2.out.below HG5.out)).mono ?_
  rintro e w6 ⟨R6, r6, q6, rfl, hy, _, _, hb⟩
  have HG6 := Lib.hid (HG5.out.trans (hb.mono HG5.out.size))
  have HR6 := Lib.hid hy
  have HS6 := Lib.hid hb
  clear hb hy
  have hcv1 := conv_bytes (cap := q3) (((HR3.out.below HS4.out).below HS5.out).below HS6.out)
  have hcv2 := conv_bytes (cap := q4) ((HR4.out.below HS5.out).below HS6.out)
  generalize strOfNums L1 = sl at *
  go_wp2_with fail
  refine (awake7_any _).mono ?_
  rintro e w7 ⟨rfl, hb⟩
  have HG7 := Lib.hid (HG6.out.trans (hb.mono HG6.out.size))
  have HBE := Lib.hid (HB2.out.trans (HG7.out.mono HB2.out.size))
  clear hb
  go_wp2
  go_ret
  exact ⟨rfl, HBE.out⟩
end Go.Proofs.Ytgoajnljgbcmdaa
