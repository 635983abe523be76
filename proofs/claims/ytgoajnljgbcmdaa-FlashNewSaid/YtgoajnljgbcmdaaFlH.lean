/- The laws' helpers of layer 7. -/
import Derived.Test.YtgoajnljgbcmdaaFlG
import Derived.Test.YtgoajnljgbcmdaaFpE
namespace Go.Proofs.Ytgoajnljgbcmdaa
open Go.RowKit
set_option maxRecDepth 100000

set_option maxHeartbeats 2000000 in
theorem programs_any (P : Int) (A B : Option Addr) (n c m d : Nat) (zs bs : List Int) (pg a b : Int) (w : World) (hA : Bytes w A n zs) (hB : Bytes w B m bs) (hc : n ≤ c) (hcm : c ≤ 9223372036854775807) (hd : m ≤ d) (hdm : d ≤ 9223372036854775807) (hb : b ≤ 9223372036854775807) (ha : a ≤ 9223372036854775807) :
    Calls Try.prog 19 #[.agg #[.int .i64 P, .slice A n c], .int .i64 pg, .int .i64 a, .slice B m d, .int .i64 b] w fun e w' => e = .returned (.bool true) ∧ Below w.heap.size w w' := by
  have hb0 := (Below.refl w.heap.size w).alloc (Nat.le_refl _) (.cells #[.int .i64 P, .slice A n c] 24)
  have hf := Cs.new w 24 [.int .i64 P, .slice A n c]
  have HB0 := Lib.hid hb0
  have HF := Lib.hid hf
  have c1 := fun w' (h : Below w.heap.size w w') => prgE_all P A B n c m d zs bs pg a b w' (hA.below h) (hB.below h) hc hcm hd hdm hb ha
  have c2 := fun w' (h : Below w.heap.size w w') => prgR_all P A B n c m d zs bs pg a b w' (hA.below h) (hB.below h) (by omega) hb
  unfold GivesP at c1 c2
  generalize ifE (areE P n pg a (m : Int)) P 0 = P1 at *
  generalize ifE (areE P n pg a (m : Int)) (chgL zs (fromE P pg a) (prgG bs) (doneN b m)) [] = LL at *
  generalize ifE (areE P n pg a (m : Int)) (leftB b m) 0 = LB at *
  generalize ifE (areE P n pg a (m : Int)) (powE6 b m) (areE P n pg a (m : Int)) = PE at *
  have C1 := Lib.hid c1
  have C2 := Lib.hid c2
  clear c1 c2 hb0 hf
  go_enter Try.func19, Try.ntmps19
  go_wp2_with fail
  refine (C1.out _ HB0.out).mono ?_
  rintro e w1 ⟨A1, n1, c1, rfl, hy1, _, _, hb1⟩
  have HY1 := Lib.hid hy1
  have HB1 := Lib.hid (HB0.out.trans (hb1.mono HB0.out.size))
  have hf1 := (HF.out.below hb1 (by simp)).grow (.cells #[.int .i64 P1, .slice A1 n1 c1] 24)
  have HX1 := Lib.hid (Cs.new w1 24 [.int .i64 P1, .slice A1 n1 c1])
  have HBx := Lib.hid ((Below.refl w1.heap.size w1).alloc (Nat.le_refl _) (.cells #[.int .i64 P1, .slice A1 n1 c1] 24))
  have HB1x := Lib.hid (HB1.out.trans (HBx.out.mono HB1.out.size))
  have k0 := hf1.cell 0
  have k1 := hf1.cell 1
  simp only [List.getElem?_cons_succ, List.getElem?_cons_zero] at k0 k1
  clear hy1 hb1 hf1
  go_wp2_with fail
  refine (C2.out _ HB1x.out).mono ?_
  rintro e w2 ⟨A2, n2, c2, rfl, hy2, _, _, hb2⟩
  have HB2 := Lib.hid (HB1x.out.trans (hb2.mono HB1x.out.size))
  have hx1 := (HX1.out.below hb2 (by simp)).grow (.cells #[.int .i64 P1, .slice A2 n2 c2] 24)
  have hx2 := Cs.new w2 24 [.int .i64 P1, .slice A2 n2 c2]
  have hbz := (Below.refl w2.heap.size w2).alloc (Nat.le_refl _) (.cells #[.int .i64 P1, .slice A2 n2 c2] 24)
  have HY2 := Lib.hid (hy2.below hbz)
  have HY12 := Lib.hid (((HY1.out.below HBx.out).below hb2).below hbz)
  have HB3 := Lib.hid (HB2.out.trans (hbz.mono HB2.out.size))
  clear k0 k1
  have k0 := hx1.cell 0
  have k1 := hx1.cell 1
  have l0 := hx2.cell 0
  have l1 := hx2.cell 1
  simp only [List.getElem?_cons_succ, List.getElem?_cons_zero] at k0 k1 l0 l1
  clear hb2 hy2 hx1 hx2 hbz
  go_wp2_with fail
  refine (same_any P1 A1 A2 n1 c1 n2 c2 LL _ HY12.out HY2.out).mono ?_
  rintro e w3 ⟨rfl, hb3⟩
  have HB4 := Lib.hid (HB3.out.trans (hb3.mono HB3.out.size))
  clear hb3
  go_wp2
  go_ret
  exact ⟨rfl, HB4.out⟩
set_option maxHeartbeats 2000000 in
theorem erases_any (P : Int) (A : Option Addr) (n c : Nat) (zs : List Int) (pg b : Int) (w : World) (hA : Bytes w A n zs) (hc : n ≤ c) (hcm : c ≤ 9223372036854775807) (hb : b ≤ 9223372036854775807) :
    Calls Try.prog 20 #[.agg #[.int .i64 P, .slice A n c], .int .i64 pg, .int .i64 b] w fun e w' => e = .returned (.bool true) ∧ Below w.heap.size w w' := by
  have hb0 := (Below.refl w.heap.size w).alloc (Nat.le_refl _) (.cells #[.int .i64 P, .slice A n c] 24)
  have hf := Cs.new w 24 [.int .i64 P, .slice A n c]
  have HB0 := Lib.hid hb0
  have HF := Lib.hid hf
  have c1 := fun w' (h : Below w.heap.size w w') => eraE_all P A n c zs pg b w' (hA.below h) hc hcm hb
  have c2 := fun w' (h : Below w.heap.size w w') => eraR_all P A n c zs pg b w' (hA.below h) (by omega) hb
  unfold GivesP at c1 c2
  generalize ifE (areE P n pg 0 0) P 0 = P1 at *
  generalize ifE (areE P n pg 0 0) (chgL zs (fromE P pg 0) eraG (doneN b P.toNat)) [] = LL at *
  generalize ifE (areE P n pg 0 0) (leftB b P.toNat) 0 = LB at *
  generalize ifE (areE P n pg 0 0) (powE6 b P.toNat) (areE P n pg 0 0) = PE at *
  have C1 := Lib.hid c1
  have C2 := Lib.hid c2
  clear c1 c2 hb0 hf
  go_enter Try.func20, Try.ntmps20
  go_wp2_with fail
  refine (C1.out _ HB0.out).mono ?_
  rintro e w1 ⟨A1, n1, c1, rfl, hy1, _, _, hb1⟩
  have HY1 := Lib.hid hy1
  have HB1 := Lib.hid (HB0.out.trans (hb1.mono HB0.out.size))
  have hf1 := (HF.out.below hb1 (by simp)).grow (.cells #[.int .i64 P1, .slice A1 n1 c1] 24)
  have HX1 := Lib.hid (Cs.new w1 24 [.int .i64 P1, .slice A1 n1 c1])
  have HBx := Lib.hid ((Below.refl w1.heap.size w1).alloc (Nat.le_refl _) (.cells #[.int .i64 P1, .slice A1 n1 c1] 24))
  have HB1x := Lib.hid (HB1.out.trans (HBx.out.mono HB1.out.size))
  have k0 := hf1.cell 0
  have k1 := hf1.cell 1
  simp only [List.getElem?_cons_succ, List.getElem?_cons_zero] at k0 k1
  clear hy1 hb1 hf1
  go_wp2_with fail
  refine (C2.out _ HB1x.out).mono ?_
  rintro e w2 ⟨A2, n2, c2, rfl, hy2, _, _, hb2⟩
  have HB2 := Lib.hid (HB1x.out.trans (hb2.mono HB1x.out.size))
  have hx1 := (HX1.out.below hb2 (by simp)).grow (.cells #[.int .i64 P1, .slice A2 n2 c2] 24)
  have hx2 := Cs.new w2 24 [.int .i64 P1, .slice A2 n2 c2]
  have hbz := (Below.refl w2.heap.size w2).alloc (Nat.le_refl _) (.cells #[.int .i64 P1, .slice A2 n2 c2] 24)
  have HY2 := Lib.hid (hy2.below hbz)
  have HY12 := Lib.hid (((HY1.out.below HBx.out).below hb2).below hbz)
  have HB3 := Lib.hid (HB2.out.trans (hbz.mono HB2.out.size))
  clear k0 k1
  have k0 := hx1.cell 0
  have k1 := hx1.cell 1
  have l0 := hx2.cell 0
  have l1 := hx2.cell 1
  simp only [List.getElem?_cons_succ, List.getElem?_cons_zero] at k0 k1 l0 l1
  clear hb2 hy2 hx1 hx2 hbz
  go_wp2_with fail
  refine (same_any P1 A1 A2 n1 c1 n2 c2 LL _ HY12.out HY2.out).mono ?_
  rintro e w3 ⟨rfl, hb3⟩
  have HB4 := Lib.hid (HB3.out.trans (hb3.mono HB3.out.size))
  clear hb3
  go_wp2
  go_ret
  exact ⟨rfl, HB4.out⟩
theorem one_byte_at (w : World) (n : Nat) (z : Int) (hn : w.heap.size = n) (h0 : 0 ≤ z ∧ z ≤ 255) : Bytes (w.alloc (.cells #[.int .u8 z] 5)) (some ⟨n, 0, none⟩) 1 [z] := by rw [← hn]; exact one_byte w z h0
theorem rdL_one {zs : List Int} {s : Nat} (h : s < zs.length) : rdL zs s 1 = [zs.getD s 0] := by
  unfold rdL
  rw [List.drop_eq_getElem_cons h, List.take_succ_cons, List.take_zero]
  simp [List.getD, h]
set_option maxHeartbeats 2000000 in
theorem awake7_any (w : World) : Calls Try.prog 9 #[] w fun e w' => e = .returned (.bool true) ∧ Below w.heap.size w w' := by
  have hnE : newE 512 2 = 0 := by decide
  have hL0 : (512 * 2 : Int).toNat = 1024 := by decide
  obtain ⟨L0, hL⟩ : ∃ L0, List.replicate 1024 (255 : Int) = L0 := ⟨_, rfl⟩
  have h0l : L0.length = 1024 := by rw [← hL, List.length_replicate]
  have h0v : L0.getD 515 0 = 255 := by
    rw [← hL]
    simp only [List.getD, List.getElem?_replicate]
    rfl
  have c1' := fun w => newE_all 512 2 w
  simp only [hnE, hL0, hL, ifE_ok] at c1'
  have hE : areE 512 1024 1 3 1 = 0 := by decide
  have hfr : fromE 512 1 3 = 515 := by decide
  have hdn : doneN (-1) 1 = 1 := by decide
  obtain ⟨L1, hL1⟩ : ∃ L1, chgL L0 515 (prgG [15]) 1 = L1 := ⟨_, rfl⟩
  obtain ⟨L2, hL2⟩ : ∃ L2, chgL L1 515 (prgG [240]) 1 = L2 := ⟨_, rfl⟩
  have h1l : L1.length = 1024 := by rw [← hL1, chgL_len, h0l]
  have h2l : L2.length = 1024 := by rw [← hL2, chgL_len, h1l]
  have h1v : L1.getD 515 0 = 15 := by
    rw [← hL1, chgL_at _ _ _ _ _ (by omega), if_pos (by omega), h0v]
    decide
  have h2v : rdL L2 515 1 = [0] := by
    rw [rdL_one (by omega), ← hL2, chgL_at _ _ _ _ _ (by omega), if_pos (by omega), h1v]
    decide
  have c2 : ∀ w A c B, Bytes w A 1024 L0 → 1024 ≤ c → c ≤ 9223372036854775807 → Bytes w B 1 [15] → Calls Try.prog 21 #[.agg #[.int .i64 512, .slice A 1024 c], .int .i64 1, .int .i64 3, .slice B 1 1, .int .i64 (-1)] w (GivesF 512 L1 (-1) 0 w) := fun w A c B h hc hm hB => by
    have h' := prgE_all 512 A B 1024 c 1 1 L0 [15] 1 3 (-1) w h hB hc hm (by decide) (by decide) (by decide)
    unfold GivesP at h'
    have e1 : ((1 : Nat) : Int) = 1 := rfl
    have e2 : leftB (-1) 1 = -1 := by decide
    have e3 : powE6 (-1) 1 = 0 := by decide
    simp only [e1, hE, hfr, hdn, hL1, e2, e3, ifE_ok] at h'
    exact h'
  have c3 : ∀ w A c B, Bytes w A 1024 L1 → 1024 ≤ c → c ≤ 9223372036854775807 → Bytes w B 1 [240] → Calls Try.prog 21 #[.agg #[.int .i64 512, .slice A 1024 c], .int .i64 1, .int .i64 3, .slice B 1 1, .int .i64 (-1)] w (GivesF 512 L2 (-1) 0 w) := fun w A c B h hc hm hB => by
    have h' := prgE_all 512 A B 1024 c 1 1 L1 [240] 1 3 (-1) w h hB hc hm (by decide) (by decide) (by decide)
    unfold GivesP at h'
    have e1 : ((1 : Nat) : Int) = 1 := rfl
    have e2 : leftB (-1) 1 = -1 := by decide
    have e3 : powE6 (-1) 1 = 0 := by decide
    simp only [e1, hE, hfr, hdn, hL2, e2, e3, ifE_ok] at h'
    exact h'
  have c4 : ∀ w A c, Bytes w A 1024 L2 → 1024 ≤ c → c ≤ 9223372036854775807 → Calls Try.prog 17 #[.agg #[.int .i64 512, .slice A 1024 c], .int .i64 1, .int .i64 3, .int .i64 1] w (GivesR [0] 0 w) := fun w A c h hc hm => by
    have h' := readE_all 512 A 1024 c L2 1 3 1 w h hc hm
    have e1 : (1 : Int).toNat = 1 := rfl
    simp only [hE, hfr, e1, h2v, ifE_ok] at h'
    exact h'
  have C1 := Lib.hid c1'
  have C2 := Lib.hid c2
  have C3 := Lib.hid c3
  have C4 := Lib.hid c4
  have H0 := Lib.hid h0l
  have H1 := Lib.hid h1l
  have H2 := Lib.hid h2l
  have HB0 := Lib.hid (Below.refl w.heap.size w)
  clear hnE c1' c2 c3 c4 h0l h1l h2l h0v h1v h2v hE hfr hdn hL hL0 hL1 hL2
  go_enter Try.func9, Try.ntmps9
  go_wp2_with fail
  refine (C1.out _).mono ?_
  rintro e w1 ⟨A1, n1, c1, rfl, hy1, hk1, hm1, hb1⟩
  obtain rfl : n1 = 1024 := by rw [← hy1.len]; exact H0.out
  have HX1 := Lib.hid (Cs.new w1 24 [.int .i64 512, .slice A1 1024 c1])
  have hbx := (Below.refl w1.heap.size w1).alloc (Nat.le_refl _) (.cells #[.int .i64 512, .slice A1 1024 c1] 24)
  have HB1 := Lib.hid (HB0.out.trans ((hb1.trans (hbx.mono hb1.size)).mono HB0.out.size))
  have HY1 := Lib.hid (hy1.below hbx)
  have k0 := HX1.out.cell 0
  have k1 := HX1.out.cell 1
  simp only [List.getElem?_cons_succ, List.getElem?_cons_zero] at k0 k1
  have HP1 := Lib.hid (one_byte_at (w1.alloc (.cells #[.int .i64 512, .slice A1 1024 c1] 24)) (w1.heap.size + 1) 15 (by simp) (by decide))
  have hbl := (Below.refl (w1.alloc (.cells #[.int .i64 512, .slice A1 1024 c1] 24)).heap.size (w1.alloc (.cells #[.int .i64 512, .slice A1 1024 c1] 24))).alloc (Nat.le_refl _) (.cells #[.int .u8 15] 5)
  have HYp1 := Lib.hid (HY1.out.below hbl)
  have HBp1 := Lib.hid (HB1.out.trans (hbl.mono HB1.out.size))
  have hkz := HX1.out.grow (.cells #[.int .u8 15] 5)
  have HXp1 := Lib.hid hkz
  clear hbl hkz
  clear hbx hb1 hy1
  go_wp2_with fail
  refine (C2.out _ _ _ _ HYp1.out hk1 hm1 HP1.out).mono ?_
  rintro e w2 ⟨A2, n2, c2, rfl, hy2, hk2, hm2, hb2⟩
  obtain rfl : n2 = 1024 := by rw [← hy2.len]; exact H1.out
  have hz2 := (HXp1.out.below hb2 (by simp; omega)).grow (.cells #[.int .i64 512, .slice A2 1024 c2] 24)
  have HZ2 := Lib.hid hz2
  clear k0 k1 hz2
  have HX2 := Lib.hid (Cs.new w2 24 [.int .i64 512, .slice A2 1024 c2])
  have hbx := (Below.refl w2.heap.size w2).alloc (Nat.le_refl _) (.cells #[.int .i64 512, .slice A2 1024 c2] 24)
  have HB2 := Lib.hid (HBp1.out.trans ((hb2.trans (hbx.mono hb2.size)).mono HBp1.out.size))
  have HY2 := Lib.hid (hy2.below hbx)
  have k0 := HX2.out.cell 0
  have k1 := HX2.out.cell 1
  simp only [List.getElem?_cons_succ, List.getElem?_cons_zero] at k0 k1
  have HP2 := Lib.hid (one_byte_at (w2.alloc (.cells #[.int .i64 512, .slice A2 1024 c2] 24)) (w2.heap.size + 1) 240 (by simp) (by decide))
  have hbl := (Below.refl (w2.alloc (.cells #[.int .i64 512, .slice A2 1024 c2] 24)).heap.size (w2.alloc (.cells #[.int .i64 512, .slice A2 1024 c2] 24))).alloc (Nat.le_refl _) (.cells #[.int .u8 240] 5)
  have HYp2 := Lib.hid (HY2.out.below hbl)
  have HBp2 := Lib.hid (HB2.out.trans (hbl.mono HB2.out.size))
  have hkz := HX2.out.grow (.cells #[.int .u8 240] 5)
  have HXp2 := Lib.hid hkz
  clear hbl hkz
  clear hbx hb2 hy2
  go_wp2_with fail
  refine (C3.out _ _ _ _ HYp2.out hk2 hm2 HP2.out).mono ?_
  rintro e w3 ⟨A3, n3, c3, rfl, hy3, hk3, hm3, hb3⟩
  obtain rfl : n3 = 1024 := by rw [← hy3.len]; exact H2.out
  have hz3 := ((HZ2.out.grow (.cells #[.int .u8 240] 5)).below hb3 (by have h9 := (HZ2.out.grow (.cells #[.int .u8 240] 5)).lt; exact h9)).grow (.cells #[.int .i64 512, .slice A3 1024 c3] 24)
  have HZ3 := Lib.hid hz3
  clear k0 k1 hz3
  have HX3 := Lib.hid (Cs.new w3 24 [.int .i64 512, .slice A3 1024 c3])
  have hbx := (Below.refl w3.heap.size w3).alloc (Nat.le_refl _) (.cells #[.int .i64 512, .slice A3 1024 c3] 24)
  have HB3 := Lib.hid (HBp2.out.trans ((hb3.trans (hbx.mono hb3.size)).mono HBp2.out.size))
  have HY3 := Lib.hid (hy3.below hbx)
  have k0 := HX3.out.cell 0
  have k1 := HX3.out.cell 1
  simp only [List.getElem?_cons_succ, List.getElem?_cons_zero] at k0 k1
  clear hbx hb3 hy3
  go_wp2_with fail
  refine (C4.out _ _ _ HY3.out hk3 hm3).mono ?_
  rintro e w4 ⟨A4, n4, c4, rfl, hy4, _, _, hb4⟩
  have HB4 := Lib.hid (HB3.out.trans (hb4.mono HB3.out.size))
  have hz4 := HZ3.out.below hb4 HZ3.out.lt
  have hcv := conv_bytes (cap := c4) hy4
  rw [show strOfNums [0] = ⟨#[0]⟩ from rfl] at hcv
  clear k0 k1
  have k1 := hz4.cell 1
  simp only [List.getElem?_cons_succ, List.getElem?_cons_zero] at k1
  clear hz4 hb4 hy4
  go_wp2
  go_ret
  exact ⟨rfl, HB4.out⟩
end Go.Proofs.Ytgoajnljgbcmdaa
