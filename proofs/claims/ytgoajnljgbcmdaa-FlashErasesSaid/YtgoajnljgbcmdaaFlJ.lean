/- Layer 7: the law FlashNew. -/
import Derived.Test.YtgoajnljgbcmdaaFlI
import Derived.Test.YtgoajnljgbcmdaaFlB
namespace Go.Proofs.Ytgoajnljgbcmdaa
open Go.RowKit
set_option maxRecDepth 100000

set_option maxHeartbeats 1000000 in
theorem new_long (sz pgs x P : Int) (A : Option Addr) (n c : Nat) (w : World) (h : 5000 < n) :
    Calls Try.prog 3 #[.int .i64 sz, .int .i64 pgs, .int .i64 x, .agg #[.int .i64 P, .slice A n c]] w fun e w' => e = .returned (.bool true) ∧ Below w.heap.size w w' := by
  have h1 : (5000 : Int) < (n : Int) := by omega
  have HB0 := Lib.hid ((Below.refl w.heap.size w).alloc (Nat.le_refl _) (.cells #[.int .i64 P, .slice A n c] 24))
  clear h
  go_enter Try.func3, Try.ntmps3
  go_wp2_with fail
  refine (awake7_any _).mono ?_
  rintro e w1 ⟨rfl, hb⟩
  have HB1 := Lib.hid (HB0.out.trans (hb.mono HB0.out.size))
  clear hb
  go_wp2
  go_ret
  exact ⟨rfl, HB1.out⟩
set_option maxHeartbeats 8000000 in
theorem new_lo (sz pgs x P : Int) (A : Option Addr) (n c : Nat) (w : World) (hn5 : n ≤ 5000) (g1 : sz < 512) :
    Calls Try.prog 3 #[.int .i64 sz, .int .i64 pgs, .int .i64 x, .agg #[.int .i64 P, .slice A n c]] w fun e w' => e = .returned (.bool true) ∧ Below w.heap.size w w' := by
  have h1 : ¬ (5000 : Int) < (n : Int) := by omega
  obtain ⟨J, hJ⟩ := Int.eq_ofNat_of_zero_le (show 0 ≤ x % 8 % 5 by omega)
  have hJl : J < 5 := by omega
  have hJI : (J : Int) < 5 := by omega
  have hb0 := ((Below.refl w.heap.size w).alloc (Nat.le_refl _) (.cells #[.int .i64 P, .slice A n c] 24)).alloc (by simp) (.cells #[.int .i64 511, .int .i64 512, .int .i64 513, .int .i64 700, .int .i64 0] 3)
  have hf := (Cs.new w 24 [.int .i64 P, .slice A n c]).grow (.cells #[.int .i64 511, .int .i64 512, .int .i64 513, .int .i64 700, .int .i64 0] 3)
  have ht := Cs.new2 w (.cells #[.int .i64 P, .slice A n c] 24) 3 [.int .i64 511, .int .i64 512, .int .i64 513, .int .i64 700, .int .i64 0]
  obtain ⟨pv, hpv⟩ : ∃ pv : Int, ([.int .i64 511, .int .i64 512, .int .i64 513, .int .i64 700, .int .i64 0] : List Value)[J]? = some (.int .i64 pv) := by
    rcases (by omega : J = 0 ∨ J = 1 ∨ J = 2 ∨ J = 3 ∨ J = 4) with rfl | rfl | rfl | rfl | rfl <;> exact ⟨_, rfl⟩
  have hcJ := (ht.cell J).trans hpv
  have e1 := fun w => newE_all pv (x / 8 % 16 - 2) w
  have e2 := fun w => newR_all pv (x / 8 % 16 - 2) w
  have e3 := fun w => newE_all sz pgs w
  have e4 := fun w => vldE_all P A n c w (by omega)
  have e5 := fun w => valR_any P A n c w (by omega)
  have hE : newE sz pgs = 9 := by unfold newE; exact if_pos (by omega)
  rw [hE] at e3
  generalize ifE (newE pv (x / 8 % 16 - 2)) pv 0 = P1 at *
  generalize ifE (newE pv (x / 8 % 16 - 2)) (List.replicate (pv * (x / 8 % 16 - 2)).toNat (255 : Int)) [] = L1 at *
  generalize newE pv (x / 8 % 16 - 2) = E1 at *
  have hnil : ifE (9 : Int) (List.replicate (sz * pgs).toNat (255 : Int)) [] = [] := rfl
  rw [hnil] at e3
  generalize ifE (9 : Int) sz 0 = P3 at *
  generalize valE P n = VE at *
  have D1 := Lib.hid e1
  have D2 := Lib.hid e2
  have D3 := Lib.hid e3
  have D4 := Lib.hid e4
  have D5 := Lib.hid e5
  have HB0 := Lib.hid hb0
  have HF := Lib.hid hf
  clear e1 e2 e3 e4 e5 hE hb0 hf ht hpv hJl hn5 hnil
  go_enter Try.func3, Try.ntmps3
  go_wp2_with fail
  refine (D1.out _).mono ?_
  rintro e w1 ⟨A1, n1, c1, rfl, hy, _, _, hb⟩
  have hbx := (Below.refl w1.heap.size w1).alloc (Nat.le_refl _) (.cells #[.int .i64 P1, .slice A1 n1 c1] 24)
  have HY1 := Lib.hid (hy.below hbx)
  have HB1 := Lib.hid (HB0.out.trans ((hb.trans (hbx.mono hb.size)).mono HB0.out.size))
  have HX1 := Lib.hid (Cs.new w1 24 [.int .i64 P1, .slice A1 n1 c1])
  have hHF := (HF.out.below hb HF.out.lt).grow (.cells #[.int .i64 P1, .slice A1 n1 c1] 24)
  clear hbx hb
  clear hy
  clear HF
  have HF := Lib.hid hHF
  clear hHF
  go_wp2_with fail
  refine (D2.out _).mono ?_
  rintro e w2 ⟨A2, n2, c2, rfl, hy, _, _, hb⟩
  have hbx := (Below.refl w2.heap.size w2).alloc (Nat.le_refl _) (.cells #[.int .i64 P1, .slice A2 n2 c2] 24)
  have HY2 := Lib.hid (hy.below hbx)
  have HB2 := Lib.hid (HB1.out.trans ((hb.trans (hbx.mono hb.size)).mono HB1.out.size))
  have HX2 := Lib.hid (Cs.new w2 24 [.int .i64 P1, .slice A2 n2 c2])
  have hHF := (HF.out.below hb HF.out.lt).grow (.cells #[.int .i64 P1, .slice A2 n2 c2] 24)
  have hHX1 := (HX1.out.below hb HX1.out.lt).grow (.cells #[.int .i64 P1, .slice A2 n2 c2] 24)
  have HYo12 := Lib.hid ((HY1.out.below hb).below hbx)
  clear hbx hb
  clear hy
  clear HF
  have HF := Lib.hid hHF
  clear hHF
  clear HX1
  have HX1 := Lib.hid hHX1
  clear hHX1
  go_wp2_with fail
  refine (D3.out _).mono ?_
  rintro e w3 ⟨A3, n3, c3, rfl, hy, _, _, hb⟩
  have hbx := (Below.refl w3.heap.size w3).alloc (Nat.le_refl _) (.cells #[.int .i64 P3, .slice A3 n3 c3] 24)
  have HY3 := Lib.hid (hy.below hbx)
  have HB3 := Lib.hid (HB2.out.trans ((hb.trans (hbx.mono hb.size)).mono HB2.out.size))
  have HX3 := Lib.hid (Cs.new w3 24 [.int .i64 P3, .slice A3 n3 c3])
  have hHF := (HF.out.below hb HF.out.lt).grow (.cells #[.int .i64 P3, .slice A3 n3 c3] 24)
  have hHX1 := (HX1.out.below hb HX1.out.lt).grow (.cells #[.int .i64 P3, .slice A3 n3 c3] 24)
  have hHX2 := (HX2.out.below hb HX2.out.lt).grow (.cells #[.int .i64 P3, .slice A3 n3 c3] 24)
  have HYo13 := Lib.hid ((HYo12.out.below hb).below hbx)
  have HYo23 := Lib.hid ((HY2.out.below hb).below hbx)
  clear hbx hb
  have hz : n3 = 0 := hy.len.symm.trans rfl
  subst hz
  clear hy
  clear HF
  have HF := Lib.hid hHF
  clear hHF
  clear HX1
  have HX1 := Lib.hid hHX1
  clear hHX1
  clear HX2
  have HX2 := Lib.hid hHX2
  clear hHX2
  have HYA := Lib.hid (HYo13.out.below (Below.refl _ _).drew)
  have HYB := Lib.hid (HYo23.out.below (Below.refl _ _).drew)
  have HFd := Lib.hid HF.out.drew
  have HXa := Lib.hid HX1.out.drew
  have HXb := Lib.hid HX2.out.drew
  have HXc := Lib.hid HX3.out.drew
  have HBd := Lib.hid HB3.out.drew
  go_wp2_with fail
  refine held_begin (by kernel_rfl) ?_
  refine held_take (i := 0) (v := ?_) rfl rfl (by kernel_rfl) (by kernel_rfl) (by kernel_rfl) (fun _ _ _ h => h) (by rfl) ?_ ?_
  rotate_left
  · intro W hW
    go_simp
    try with_reducible rfl
  simp only [Act.put, List.setIfInBounds_toArray, List.set_cons_zero, List.set_cons_succ]
  refine held_take (i := 1) (v := ?_) rfl rfl (by kernel_rfl) (by kernel_rfl) (by kernel_rfl) (fun _ _ _ h => h) (by rfl) ?_ ?_
  rotate_left
  · intro W hW
    go_simp
    try with_reducible rfl
  simp only [Act.put, List.setIfInBounds_toArray, List.set_cons_zero, List.set_cons_succ]
  refine held_take (i := 2) (v := ?_) rfl rfl (by kernel_rfl) (by kernel_rfl) (by kernel_rfl) (fun _ _ _ h => h) (by rfl) ?_ ?_
  rotate_left
  · intro W hW
    go_simp
    try with_reducible rfl
  simp only [Act.put, List.setIfInBounds_toArray, List.set_cons_zero, List.set_cons_succ]
  refine held_take (i := 3) (v := ?_) rfl rfl (by kernel_rfl) (by kernel_rfl) (by kernel_rfl) (fun _ _ _ h => h) (by rfl) ?_ ?_
  rotate_left
  · intro W hW
    go_simp
    try with_reducible rfl
  simp only [Act.put, List.setIfInBounds_toArray, List.set_cons_zero, List.set_cons_succ]
  refine held_take (i := 4) (v := ?_) rfl rfl (by kernel_rfl) (by kernel_rfl) (by kernel_rfl) (fun _ _ _ h => h) (by rfl) ?_ ?_
  rotate_left
  · intro W hW
    have z0 := (HXa.out.below hW HXa.out.lt).cell 0
    have y0 := (HXa.out.below hW HXa.out.lt).cell 1
    simp only [List.getElem?_cons_succ, List.getElem?_cons_zero] at z0 y0
    go_simp
    try with_reducible rfl
  simp only [Act.put, List.setIfInBounds_toArray, List.set_cons_zero, List.set_cons_succ]
  refine held_take (i := 5) (v := ?_) rfl rfl (by kernel_rfl) (by kernel_rfl) (by kernel_rfl) (fun _ _ _ h => h) (by rfl) ?_ ?_
  rotate_left
  · intro W hW
    have z0 := (HXb.out.below hW HXb.out.lt).cell 0
    have y0 := (HXb.out.below hW HXb.out.lt).cell 1
    simp only [List.getElem?_cons_succ, List.getElem?_cons_zero] at z0 y0
    go_simp
    try with_reducible rfl
  simp only [Act.put, List.setIfInBounds_toArray, List.set_cons_zero, List.set_cons_succ]
  refine held_call (i := 6) (by kernel_rfl) rfl (fun K' hK => ?_)
  rw [if_pos (by rfl)]
  go_simp
  refine (same_any P1 A1 A2 n1 c1 n2 c2 L1 _ HYA.out HYB.out).mono ?_
  rintro e w4 ⟨rfl, hb⟩
  refine hK.out _ _ hb ?_
  clear hK K'
  have HFe := Lib.hid (HFd.out.below hb HFd.out.lt)
  have HXe := Lib.hid (HXc.out.below hb HXc.out.lt)
  have HBe := Lib.hid (HBd.out.trans (hb.mono HBd.out.size))
  clear hb
  refine held_take (i := 7) (v := ?_) rfl rfl (by kernel_rfl) (by kernel_rfl) (by kernel_rfl) (fun _ _ _ h => h) (by rfl) ?_ ?_
  rotate_left
  · intro W hW
    go_simp
    try with_reducible rfl
  simp only [Act.put, List.setIfInBounds_toArray, List.set_cons_zero, List.set_cons_succ]
  refine held_take (i := 8) (v := ?_) rfl rfl (by kernel_rfl) (by kernel_rfl) (by kernel_rfl) (fun _ _ _ h => h) (by rfl) ?_ ?_
  rotate_left
  · intro W hW
    go_simp
    try with_reducible rfl
  simp only [Act.put, List.setIfInBounds_toArray, List.set_cons_zero, List.set_cons_succ]
  refine held_take (i := 9) (v := ?_) rfl rfl (by kernel_rfl) (by kernel_rfl) (by kernel_rfl) (fun _ _ _ h => h) (by rfl) ?_ ?_
  rotate_left
  · intro W hW
    go_simp
    try with_reducible rfl
  simp only [Act.put, List.setIfInBounds_toArray, List.set_cons_zero, List.set_cons_succ]
  refine held_take (i := 10) (v := ?_) rfl rfl (by kernel_rfl) (by kernel_rfl) (by kernel_rfl) (fun _ _ _ h => h) (by rfl) ?_ ?_
  rotate_left
  · intro W hW
    go_simp
    try with_reducible rfl
  simp only [Act.put, List.setIfInBounds_toArray, List.set_cons_zero, List.set_cons_succ]
  refine held_take (i := 11) (v := ?_) rfl rfl (by kernel_rfl) (by kernel_rfl) (by kernel_rfl) (fun _ _ _ h => h) (by rfl) ?_ ?_
  rotate_left
  · intro W hW
    go_simp
    try with_reducible rfl
  simp only [Act.put, List.setIfInBounds_toArray, List.set_cons_zero, List.set_cons_succ]
  refine held_take (i := 12) (v := ?_) rfl rfl (by kernel_rfl) (by kernel_rfl) (by kernel_rfl) (fun _ _ _ h => h) (by rfl) ?_ ?_
  rotate_left
  · intro W hW
    go_simp
    try with_reducible rfl
  simp only [Act.put, List.setIfInBounds_toArray, List.set_cons_zero, List.set_cons_succ]
  refine held_take (i := 13) (v := ?_) rfl rfl (by kernel_rfl) (by kernel_rfl) (by kernel_rfl) (fun _ _ _ h => h) (by rfl) ?_ ?_
  rotate_left
  · intro W hW
    go_simp
    try with_reducible rfl
  simp only [Act.put, List.setIfInBounds_toArray, List.set_cons_zero, List.set_cons_succ]
  refine held_take (i := 14) (v := ?_) rfl rfl (by kernel_rfl) (by kernel_rfl) (by kernel_rfl) (fun _ _ _ h => h) (by rfl) ?_ ?_
  rotate_left
  · intro W hW
    go_simp
    try with_reducible rfl
  simp only [Act.put, List.setIfInBounds_toArray, List.set_cons_zero, List.set_cons_succ]
  refine held_take (i := 15) (v := ?_) rfl rfl (by kernel_rfl) (by kernel_rfl) (by kernel_rfl) (fun _ _ _ h => h) (by rfl) ?_ ?_
  rotate_left
  · intro W hW
    go_simp
    try with_reducible rfl
  simp only [Act.put, List.setIfInBounds_toArray, List.set_cons_zero, List.set_cons_succ]
  refine held_take (i := 16) (v := ?_) rfl rfl (by kernel_rfl) (by kernel_rfl) (by kernel_rfl) (fun _ _ _ h => h) (by rfl) ?_ ?_
  rotate_left
  · intro W hW
    go_simp
    try with_reducible rfl
  simp only [Act.put, List.setIfInBounds_toArray, List.set_cons_zero, List.set_cons_succ]
  refine held_take (i := 17) (v := ?_) rfl rfl (by kernel_rfl) (by kernel_rfl) (by kernel_rfl) (fun _ _ _ h => h) (by rfl) ?_ ?_
  rotate_left
  · intro W hW
    go_simp
    try with_reducible rfl
  simp only [Act.put, List.setIfInBounds_toArray, List.set_cons_zero, List.set_cons_succ]
  refine held_take (i := 18) (v := ?_) rfl rfl (by kernel_rfl) (by kernel_rfl) (by kernel_rfl) (fun _ _ _ h => h) (by rfl) ?_ ?_
  rotate_left
  · intro W hW
    have z0 := (HXe.out.below hW HXe.out.lt).cell 0
    have y0 := (HXe.out.below hW HXe.out.lt).cell 1
    simp only [List.getElem?_cons_succ, List.getElem?_cons_zero] at z0 y0
    go_simp
    try with_reducible rfl
  simp only [Act.put, List.setIfInBounds_toArray, List.set_cons_zero, List.set_cons_succ]
  refine held_take (i := 19) (v := ?_) rfl rfl (by kernel_rfl) (by kernel_rfl) (by kernel_rfl) (fun _ _ _ h => h) (by rfl) ?_ ?_
  rotate_left
  · intro W hW
    go_simp
    try with_reducible rfl
  simp only [Act.put, List.setIfInBounds_toArray, List.set_cons_zero, List.set_cons_succ]
  refine held_take (i := 20) (v := ?_) rfl rfl (by kernel_rfl) (by kernel_rfl) (by kernel_rfl) (fun _ _ _ h => h) (by rfl) ?_ ?_
  rotate_left
  · intro W hW
    go_simp
    try with_reducible rfl
  simp only [Act.put, List.setIfInBounds_toArray, List.set_cons_zero, List.set_cons_succ]
  refine held_take (i := 21) (v := ?_) rfl rfl (by kernel_rfl) (by kernel_rfl) (by kernel_rfl) (fun _ _ _ h => h) (by rfl) ?_ ?_
  rotate_left
  · intro W hW
    go_simp
    try with_reducible rfl
  simp only [Act.put, List.setIfInBounds_toArray, List.set_cons_zero, List.set_cons_succ]
  refine held_take (i := 22) (v := ?_) rfl rfl (by kernel_rfl) (by kernel_rfl) (by kernel_rfl) (fun _ _ _ h => h) (by rfl) ?_ ?_
  rotate_left
  · intro W hW
    go_simp
    try with_reducible rfl
  simp only [Act.put, List.setIfInBounds_toArray, List.set_cons_zero, List.set_cons_succ]
  refine held_take (i := 23) (v := ?_) rfl rfl (by kernel_rfl) (by kernel_rfl) (by kernel_rfl) (fun _ _ _ h => h) (by rfl) ?_ ?_
  rotate_left
  · intro W hW
    go_simp
    try with_reducible rfl
  simp only [Act.put, List.setIfInBounds_toArray, List.set_cons_zero, List.set_cons_succ]
  refine held_take (i := 24) (v := ?_) rfl rfl (by kernel_rfl) (by kernel_rfl) (by kernel_rfl) (fun _ _ _ h => h) (by rfl) ?_ ?_
  rotate_left
  · intro W hW
    have z0 := (HFe.out.below hW HFe.out.lt).cell 0
    have y0 := (HFe.out.below hW HFe.out.lt).cell 1
    simp only [List.getElem?_cons_succ, List.getElem?_cons_zero] at z0 y0
    go_simp
    try with_reducible rfl
  simp only [Act.put, List.setIfInBounds_toArray, List.set_cons_zero, List.set_cons_succ]
  refine held_take (i := 26) (v := ?_) rfl rfl (by kernel_rfl) (by kernel_rfl) (by kernel_rfl) (fun _ _ _ h => h) (by rfl) ?_ ?_
  rotate_left
  · intro W hW
    have z0 := (HFe.out.below hW HFe.out.lt).cell 0
    have y0 := (HFe.out.below hW HFe.out.lt).cell 1
    simp only [List.getElem?_cons_succ, List.getElem?_cons_zero] at z0 y0
    go_simp
    try with_reducible rfl
  simp only [Act.put, List.setIfInBounds_toArray, List.set_cons_zero, List.set_cons_succ]
  refine held_call (i := 25) (by kernel_rfl) rfl (fun K' hK => ?_)
  rw [if_pos (by rfl)]
  go_simp
  refine (D4.out _).mono ?_
  rintro e w5 ⟨rfl, hb⟩
  refine hK.out _ _ hb ?_
  clear hK K'
  have HBf := Lib.hid (HBe.out.trans (hb.mono HBe.out.size))
  clear hb
  refine held_call (i := 27) (by kernel_rfl) rfl (fun K' hK => ?_)
  rw [if_pos (by rfl)]
  go_simp
  refine (D5.out _).mono ?_
  rintro e w6 ⟨rfl, hb⟩
  refine hK.out _ _ hb ?_
  clear hK K'
  have HBg := Lib.hid (HBf.out.trans (hb.mono HBf.out.size))
  clear hb
  refine held_take (i := 28) (v := ?_) rfl rfl (by kernel_rfl) (by kernel_rfl) (by kernel_rfl) (fun _ _ _ h => h) (by rfl) ?_ ?_
  rotate_left
  · intro W hW
    go_simp
    try with_reducible rfl
  simp only [Act.put, List.setIfInBounds_toArray, List.set_cons_zero, List.set_cons_succ]
  refine held_take (i := 29) (v := ?_) rfl rfl (by kernel_rfl) (by kernel_rfl) (by kernel_rfl) (fun _ _ _ h => h) (by rfl) ?_ ?_
  rotate_left
  · intro W hW
    go_simp
    try with_reducible rfl
  simp only [Act.put, List.setIfInBounds_toArray, List.set_cons_zero, List.set_cons_succ]
  refine held_take (i := 30) (v := ?_) rfl rfl (by kernel_rfl) (by kernel_rfl) (by kernel_rfl) (fun _ _ _ h => h) (by rfl) ?_ ?_
  rotate_left
  · intro W hW
    go_simp
    try with_reducible rfl
  simp only [Act.put, List.setIfInBounds_toArray, List.set_cons_zero, List.set_cons_succ]
  refine held_call (i := 31) (by kernel_rfl) rfl (fun K' hK => ?_)
  rw [if_pos (by rfl)]
  go_simp
  refine (awake7_any _).mono ?_
  rintro e w7 ⟨rfl, hb⟩
  refine hK.out _ _ hb ?_
  clear hK K'
  have HBh := Lib.hid (HBg.out.trans (hb.mono HBg.out.size))
  clear hb
  refine held_take (i := 32) (v := ?_) rfl rfl (by kernel_rfl) (by kernel_rfl) (by kernel_rfl) (fun _ _ _ h => h) (by rfl) ?_ ?_
  rotate_left
  · intro W hW
    go_simp
    try with_reducible rfl
  simp only [Act.put, List.setIfInBounds_toArray, List.set_cons_zero, List.set_cons_succ]
  refine held_take (i := 33) (v := ?_) rfl rfl (by kernel_rfl) (by kernel_rfl) (by kernel_rfl) (fun _ _ _ h => h) (by rfl) ?_ ?_
  rotate_left
  · intro W hW
    go_simp
    try with_reducible rfl
  simp only [Act.put, List.setIfInBounds_toArray, List.set_cons_zero, List.set_cons_succ]
  refine wpAnyH_done (by kernel_rfl) ?_ _
  go_wp2
  go_ret
  exact ⟨rfl, HBh.out⟩
set_option maxHeartbeats 8000000 in
theorem new_hi (sz pgs x P : Int) (A : Option Addr) (n c : Nat) (w : World) (hn5 : n ≤ 5000) (g1 : ¬ sz < 512) (g2 : 8192 < sz) :
    Calls Try.prog 3 #[.int .i64 sz, .int .i64 pgs, .int .i64 x, .agg #[.int .i64 P, .slice A n c]] w fun e w' => e = .returned (.bool true) ∧ Below w.heap.size w w' := by
  have h1 : ¬ (5000 : Int) < (n : Int) := by omega
  obtain ⟨J, hJ⟩ := Int.eq_ofNat_of_zero_le (show 0 ≤ x % 8 % 5 by omega)
  have hJl : J < 5 := by omega
  have hJI : (J : Int) < 5 := by omega
  have hb0 := ((Below.refl w.heap.size w).alloc (Nat.le_refl _) (.cells #[.int .i64 P, .slice A n c] 24)).alloc (by simp) (.cells #[.int .i64 511, .int .i64 512, .int .i64 513, .int .i64 700, .int .i64 0] 3)
  have hf := (Cs.new w 24 [.int .i64 P, .slice A n c]).grow (.cells #[.int .i64 511, .int .i64 512, .int .i64 513, .int .i64 700, .int .i64 0] 3)
  have ht := Cs.new2 w (.cells #[.int .i64 P, .slice A n c] 24) 3 [.int .i64 511, .int .i64 512, .int .i64 513, .int .i64 700, .int .i64 0]
  obtain ⟨pv, hpv⟩ : ∃ pv : Int, ([.int .i64 511, .int .i64 512, .int .i64 513, .int .i64 700, .int .i64 0] : List Value)[J]? = some (.int .i64 pv) := by
    rcases (by omega : J = 0 ∨ J = 1 ∨ J = 2 ∨ J = 3 ∨ J = 4) with rfl | rfl | rfl | rfl | rfl <;> exact ⟨_, rfl⟩
  have hcJ := (ht.cell J).trans hpv
  have e1 := fun w => newE_all pv (x / 8 % 16 - 2) w
  have e2 := fun w => newR_all pv (x / 8 % 16 - 2) w
  have e3 := fun w => newE_all sz pgs w
  have e4 := fun w => vldE_all P A n c w (by omega)
  have e5 := fun w => valR_any P A n c w (by omega)
  have hE : newE sz pgs = 9 := by unfold newE; exact if_pos (by omega)
  rw [hE] at e3
  generalize ifE (newE pv (x / 8 % 16 - 2)) pv 0 = P1 at *
  generalize ifE (newE pv (x / 8 % 16 - 2)) (List.replicate (pv * (x / 8 % 16 - 2)).toNat (255 : Int)) [] = L1 at *
  generalize newE pv (x / 8 % 16 - 2) = E1 at *
  have hnil : ifE (9 : Int) (List.replicate (sz * pgs).toNat (255 : Int)) [] = [] := rfl
  rw [hnil] at e3
  generalize ifE (9 : Int) sz 0 = P3 at *
  generalize valE P n = VE at *
  have D1 := Lib.hid e1
  have D2 := Lib.hid e2
  have D3 := Lib.hid e3
  have D4 := Lib.hid e4
  have D5 := Lib.hid e5
  have HB0 := Lib.hid hb0
  have HF := Lib.hid hf
  clear e1 e2 e3 e4 e5 hE hb0 hf ht hpv hJl hn5 hnil
  go_enter Try.func3, Try.ntmps3
  go_wp2_with fail
  refine (D1.out _).mono ?_
  rintro e w1 ⟨A1, n1, c1, rfl, hy, _, _, hb⟩
  have hbx := (Below.refl w1.heap.size w1).alloc (Nat.le_refl _) (.cells #[.int .i64 P1, .slice A1 n1 c1] 24)
  have HY1 := Lib.hid (hy.below hbx)
  have HB1 := Lib.hid (HB0.out.trans ((hb.trans (hbx.mono hb.size)).mono HB0.out.size))
  have HX1 := Lib.hid (Cs.new w1 24 [.int .i64 P1, .slice A1 n1 c1])
  have hHF := (HF.out.below hb HF.out.lt).grow (.cells #[.int .i64 P1, .slice A1 n1 c1] 24)
  clear hbx hb
  clear hy
  clear HF
  have HF := Lib.hid hHF
  clear hHF
  go_wp2_with fail
  refine (D2.out _).mono ?_
  rintro e w2 ⟨A2, n2, c2, rfl, hy, _, _, hb⟩
  have hbx := (Below.refl w2.heap.size w2).alloc (Nat.le_refl _) (.cells #[.int .i64 P1, .slice A2 n2 c2] 24)
  have HY2 := Lib.hid (hy.below hbx)
  have HB2 := Lib.hid (HB1.out.trans ((hb.trans (hbx.mono hb.size)).mono HB1.out.size))
  have HX2 := Lib.hid (Cs.new w2 24 [.int .i64 P1, .slice A2 n2 c2])
  have hHF := (HF.out.below hb HF.out.lt).grow (.cells #[.int .i64 P1, .slice A2 n2 c2] 24)
  have hHX1 := (HX1.out.below hb HX1.out.lt).grow (.cells #[.int .i64 P1, .slice A2 n2 c2] 24)
  have HYo12 := Lib.hid ((HY1.out.below hb).below hbx)
  clear hbx hb
  clear hy
  clear HF
  have HF := Lib.hid hHF
  clear hHF
  clear HX1
  have HX1 := Lib.hid hHX1
  clear hHX1
  go_wp2_with fail
  refine (D3.out _).mono ?_
  rintro e w3 ⟨A3, n3, c3, rfl, hy, _, _, hb⟩
  have hbx := (Below.refl w3.heap.size w3).alloc (Nat.le_refl _) (.cells #[.int .i64 P3, .slice A3 n3 c3] 24)
  have HY3 := Lib.hid (hy.below hbx)
  have HB3 := Lib.hid (HB2.out.trans ((hb.trans (hbx.mono hb.size)).mono HB2.out.size))
  have HX3 := Lib.hid (Cs.new w3 24 [.int .i64 P3, .slice A3 n3 c3])
  have hHF := (HF.out.below hb HF.out.lt).grow (.cells #[.int .i64 P3, .slice A3 n3 c3] 24)
  have hHX1 := (HX1.out.below hb HX1.out.lt).grow (.cells #[.int .i64 P3, .slice A3 n3 c3] 24)
  have hHX2 := (HX2.out.below hb HX2.out.lt).grow (.cells #[.int .i64 P3, .slice A3 n3 c3] 24)
  have HYo13 := Lib.hid ((HYo12.out.below hb).below hbx)
  have HYo23 := Lib.hid ((HY2.out.below hb).below hbx)
  clear hbx hb
  have hz : n3 = 0 := hy.len.symm.trans rfl
  subst hz
  clear hy
  clear HF
  have HF := Lib.hid hHF
  clear hHF
  clear HX1
  have HX1 := Lib.hid hHX1
  clear hHX1
  clear HX2
  have HX2 := Lib.hid hHX2
  clear hHX2
  have HYA := Lib.hid (HYo13.out.below (Below.refl _ _).drew)
  have HYB := Lib.hid (HYo23.out.below (Below.refl _ _).drew)
  have HFd := Lib.hid HF.out.drew
  have HXa := Lib.hid HX1.out.drew
  have HXb := Lib.hid HX2.out.drew
  have HXc := Lib.hid HX3.out.drew
  have HBd := Lib.hid HB3.out.drew
  go_wp2_with fail
  refine held_begin (by kernel_rfl) ?_
  refine held_take (i := 0) (v := ?_) rfl rfl (by kernel_rfl) (by kernel_rfl) (by kernel_rfl) (fun _ _ _ h => h) (by rfl) ?_ ?_
  rotate_left
  · intro W hW
    go_simp
    try with_reducible rfl
  simp only [Act.put, List.setIfInBounds_toArray, List.set_cons_zero, List.set_cons_succ]
  refine held_take (i := 1) (v := ?_) rfl rfl (by kernel_rfl) (by kernel_rfl) (by kernel_rfl) (fun _ _ _ h => h) (by rfl) ?_ ?_
  rotate_left
  · intro W hW
    go_simp
    try with_reducible rfl
  simp only [Act.put, List.setIfInBounds_toArray, List.set_cons_zero, List.set_cons_succ]
  refine held_take (i := 2) (v := ?_) rfl rfl (by kernel_rfl) (by kernel_rfl) (by kernel_rfl) (fun _ _ _ h => h) (by rfl) ?_ ?_
  rotate_left
  · intro W hW
    go_simp
    try with_reducible rfl
  simp only [Act.put, List.setIfInBounds_toArray, List.set_cons_zero, List.set_cons_succ]
  refine held_take (i := 3) (v := ?_) rfl rfl (by kernel_rfl) (by kernel_rfl) (by kernel_rfl) (fun _ _ _ h => h) (by rfl) ?_ ?_
  rotate_left
  · intro W hW
    go_simp
    try with_reducible rfl
  simp only [Act.put, List.setIfInBounds_toArray, List.set_cons_zero, List.set_cons_succ]
  refine held_take (i := 4) (v := ?_) rfl rfl (by kernel_rfl) (by kernel_rfl) (by kernel_rfl) (fun _ _ _ h => h) (by rfl) ?_ ?_
  rotate_left
  · intro W hW
    have z0 := (HXa.out.below hW HXa.out.lt).cell 0
    have y0 := (HXa.out.below hW HXa.out.lt).cell 1
    simp only [List.getElem?_cons_succ, List.getElem?_cons_zero] at z0 y0
    go_simp
    try with_reducible rfl
  simp only [Act.put, List.setIfInBounds_toArray, List.set_cons_zero, List.set_cons_succ]
  refine held_take (i := 5) (v := ?_) rfl rfl (by kernel_rfl) (by kernel_rfl) (by kernel_rfl) (fun _ _ _ h => h) (by rfl) ?_ ?_
  rotate_left
  · intro W hW
    have z0 := (HXb.out.below hW HXb.out.lt).cell 0
    have y0 := (HXb.out.below hW HXb.out.lt).cell 1
    simp only [List.getElem?_cons_succ, List.getElem?_cons_zero] at z0 y0
    go_simp
    try with_reducible rfl
  simp only [Act.put, List.setIfInBounds_toArray, List.set_cons_zero, List.set_cons_succ]
  refine held_call (i := 6) (by kernel_rfl) rfl (fun K' hK => ?_)
  rw [if_pos (by rfl)]
  go_simp
  refine (same_any P1 A1 A2 n1 c1 n2 c2 L1 _ HYA.out HYB.out).mono ?_
  rintro e w4 ⟨rfl, hb⟩
  refine hK.out _ _ hb ?_
  clear hK K'
  have HFe := Lib.hid (HFd.out.below hb HFd.out.lt)
  have HXe := Lib.hid (HXc.out.below hb HXc.out.lt)
  have HBe := Lib.hid (HBd.out.trans (hb.mono HBd.out.size))
  clear hb
  refine held_take (i := 7) (v := ?_) rfl rfl (by kernel_rfl) (by kernel_rfl) (by kernel_rfl) (fun _ _ _ h => h) (by rfl) ?_ ?_
  rotate_left
  · intro W hW
    go_simp
    try with_reducible rfl
  simp only [Act.put, List.setIfInBounds_toArray, List.set_cons_zero, List.set_cons_succ]
  refine held_take (i := 8) (v := ?_) rfl rfl (by kernel_rfl) (by kernel_rfl) (by kernel_rfl) (fun _ _ _ h => h) (by rfl) ?_ ?_
  rotate_left
  · intro W hW
    go_simp
    try with_reducible rfl
  simp only [Act.put, List.setIfInBounds_toArray, List.set_cons_zero, List.set_cons_succ]
  refine held_take (i := 9) (v := ?_) rfl rfl (by kernel_rfl) (by kernel_rfl) (by kernel_rfl) (fun _ _ _ h => h) (by rfl) ?_ ?_
  rotate_left
  · intro W hW
    go_simp
    try with_reducible rfl
  simp only [Act.put, List.setIfInBounds_toArray, List.set_cons_zero, List.set_cons_succ]
  refine held_take (i := 10) (v := ?_) rfl rfl (by kernel_rfl) (by kernel_rfl) (by kernel_rfl) (fun _ _ _ h => h) (by rfl) ?_ ?_
  rotate_left
  · intro W hW
    go_simp
    try with_reducible rfl
  simp only [Act.put, List.setIfInBounds_toArray, List.set_cons_zero, List.set_cons_succ]
  refine held_take (i := 11) (v := ?_) rfl rfl (by kernel_rfl) (by kernel_rfl) (by kernel_rfl) (fun _ _ _ h => h) (by rfl) ?_ ?_
  rotate_left
  · intro W hW
    go_simp
    try with_reducible rfl
  simp only [Act.put, List.setIfInBounds_toArray, List.set_cons_zero, List.set_cons_succ]
  refine held_take (i := 12) (v := ?_) rfl rfl (by kernel_rfl) (by kernel_rfl) (by kernel_rfl) (fun _ _ _ h => h) (by rfl) ?_ ?_
  rotate_left
  · intro W hW
    go_simp
    try with_reducible rfl
  simp only [Act.put, List.setIfInBounds_toArray, List.set_cons_zero, List.set_cons_succ]
  refine held_take (i := 13) (v := ?_) rfl rfl (by kernel_rfl) (by kernel_rfl) (by kernel_rfl) (fun _ _ _ h => h) (by rfl) ?_ ?_
  rotate_left
  · intro W hW
    go_simp
    try with_reducible rfl
  simp only [Act.put, List.setIfInBounds_toArray, List.set_cons_zero, List.set_cons_succ]
  refine held_take (i := 14) (v := ?_) rfl rfl (by kernel_rfl) (by kernel_rfl) (by kernel_rfl) (fun _ _ _ h => h) (by rfl) ?_ ?_
  rotate_left
  · intro W hW
    go_simp
    try with_reducible rfl
  simp only [Act.put, List.setIfInBounds_toArray, List.set_cons_zero, List.set_cons_succ]
  refine held_take (i := 15) (v := ?_) rfl rfl (by kernel_rfl) (by kernel_rfl) (by kernel_rfl) (fun _ _ _ h => h) (by rfl) ?_ ?_
  rotate_left
  · intro W hW
    go_simp
    try with_reducible rfl
  simp only [Act.put, List.setIfInBounds_toArray, List.set_cons_zero, List.set_cons_succ]
  refine held_take (i := 16) (v := ?_) rfl rfl (by kernel_rfl) (by kernel_rfl) (by kernel_rfl) (fun _ _ _ h => h) (by rfl) ?_ ?_
  rotate_left
  · intro W hW
    go_simp
    try with_reducible rfl
  simp only [Act.put, List.setIfInBounds_toArray, List.set_cons_zero, List.set_cons_succ]
  refine held_take (i := 17) (v := ?_) rfl rfl (by kernel_rfl) (by kernel_rfl) (by kernel_rfl) (fun _ _ _ h => h) (by rfl) ?_ ?_
  rotate_left
  · intro W hW
    go_simp
    try with_reducible rfl
  simp only [Act.put, List.setIfInBounds_toArray, List.set_cons_zero, List.set_cons_succ]
  refine held_take (i := 18) (v := ?_) rfl rfl (by kernel_rfl) (by kernel_rfl) (by kernel_rfl) (fun _ _ _ h => h) (by rfl) ?_ ?_
  rotate_left
  · intro W hW
    have z0 := (HXe.out.below hW HXe.out.lt).cell 0
    have y0 := (HXe.out.below hW HXe.out.lt).cell 1
    simp only [List.getElem?_cons_succ, List.getElem?_cons_zero] at z0 y0
    go_simp
    try with_reducible rfl
  simp only [Act.put, List.setIfInBounds_toArray, List.set_cons_zero, List.set_cons_succ]
  refine held_take (i := 19) (v := ?_) rfl rfl (by kernel_rfl) (by kernel_rfl) (by kernel_rfl) (fun _ _ _ h => h) (by rfl) ?_ ?_
  rotate_left
  · intro W hW
    go_simp
    try with_reducible rfl
  simp only [Act.put, List.setIfInBounds_toArray, List.set_cons_zero, List.set_cons_succ]
  refine held_take (i := 20) (v := ?_) rfl rfl (by kernel_rfl) (by kernel_rfl) (by kernel_rfl) (fun _ _ _ h => h) (by rfl) ?_ ?_
  rotate_left
  · intro W hW
    go_simp
    try with_reducible rfl
  simp only [Act.put, List.setIfInBounds_toArray, List.set_cons_zero, List.set_cons_succ]
  refine held_take (i := 21) (v := ?_) rfl rfl (by kernel_rfl) (by kernel_rfl) (by kernel_rfl) (fun _ _ _ h => h) (by rfl) ?_ ?_
  rotate_left
  · intro W hW
    go_simp
    try with_reducible rfl
  simp only [Act.put, List.setIfInBounds_toArray, List.set_cons_zero, List.set_cons_succ]
  refine held_take (i := 22) (v := ?_) rfl rfl (by kernel_rfl) (by kernel_rfl) (by kernel_rfl) (fun _ _ _ h => h) (by rfl) ?_ ?_
  rotate_left
  · intro W hW
    go_simp
    try with_reducible rfl
  simp only [Act.put, List.setIfInBounds_toArray, List.set_cons_zero, List.set_cons_succ]
  refine held_take (i := 23) (v := ?_) rfl rfl (by kernel_rfl) (by kernel_rfl) (by kernel_rfl) (fun _ _ _ h => h) (by rfl) ?_ ?_
  rotate_left
  · intro W hW
    go_simp
    try with_reducible rfl
  simp only [Act.put, List.setIfInBounds_toArray, List.set_cons_zero, List.set_cons_succ]
  refine held_take (i := 24) (v := ?_) rfl rfl (by kernel_rfl) (by kernel_rfl) (by kernel_rfl) (fun _ _ _ h => h) (by rfl) ?_ ?_
  rotate_left
  · intro W hW
    have z0 := (HFe.out.below hW HFe.out.lt).cell 0
    have y0 := (HFe.out.below hW HFe.out.lt).cell 1
    simp only [List.getElem?_cons_succ, List.getElem?_cons_zero] at z0 y0
    go_simp
    try with_reducible rfl
  simp only [Act.put, List.setIfInBounds_toArray, List.set_cons_zero, List.set_cons_succ]
  refine held_take (i := 26) (v := ?_) rfl rfl (by kernel_rfl) (by kernel_rfl) (by kernel_rfl) (fun _ _ _ h => h) (by rfl) ?_ ?_
  rotate_left
  · intro W hW
    have z0 := (HFe.out.below hW HFe.out.lt).cell 0
    have y0 := (HFe.out.below hW HFe.out.lt).cell 1
    simp only [List.getElem?_cons_succ, List.getElem?_cons_zero] at z0 y0
    go_simp
    try with_reducible rfl
  simp only [Act.put, List.setIfInBounds_toArray, List.set_cons_zero, List.set_cons_succ]
  refine held_call (i := 25) (by kernel_rfl) rfl (fun K' hK => ?_)
  rw [if_pos (by rfl)]
  go_simp
  refine (D4.out _).mono ?_
  rintro e w5 ⟨rfl, hb⟩
  refine hK.out _ _ hb ?_
  clear hK K'
  have HBf := Lib.hid (HBe.out.trans (hb.mono HBe.out.size))
  clear hb
  refine held_call (i := 27) (by kernel_rfl) rfl (fun K' hK => ?_)
  rw [if_pos (by rfl)]
  go_simp
  refine (D5.out _).mono ?_
  rintro e w6 ⟨rfl, hb⟩
  refine hK.out _ _ hb ?_
  clear hK K'
  have HBg := Lib.hid (HBf.out.trans (hb.mono HBf.out.size))
  clear hb
  refine held_take (i := 28) (v := ?_) rfl rfl (by kernel_rfl) (by kernel_rfl) (by kernel_rfl) (fun _ _ _ h => h) (by rfl) ?_ ?_
  rotate_left
  · intro W hW
    go_simp
    try with_reducible rfl
  simp only [Act.put, List.setIfInBounds_toArray, List.set_cons_zero, List.set_cons_succ]
  refine held_take (i := 29) (v := ?_) rfl rfl (by kernel_rfl) (by kernel_rfl) (by kernel_rfl) (fun _ _ _ h => h) (by rfl) ?_ ?_
  rotate_left
  · intro W hW
    go_simp
    try with_reducible rfl
  simp only [Act.put, List.setIfInBounds_toArray, List.set_cons_zero, List.set_cons_succ]
  refine held_take (i := 30) (v := ?_) rfl rfl (by kernel_rfl) (by kernel_rfl) (by kernel_rfl) (fun _ _ _ h => h) (by rfl) ?_ ?_
  rotate_left
  · intro W hW
    go_simp
    try with_reducible rfl
  simp only [Act.put, List.setIfInBounds_toArray, List.set_cons_zero, List.set_cons_succ]
  refine held_call (i := 31) (by kernel_rfl) rfl (fun K' hK => ?_)
  rw [if_pos (by rfl)]
  go_simp
  refine (awake7_any _).mono ?_
  rintro e w7 ⟨rfl, hb⟩
  refine hK.out _ _ hb ?_
  clear hK K'
  have HBh := Lib.hid (HBg.out.trans (hb.mono HBg.out.size))
  clear hb
  refine held_take (i := 32) (v := ?_) rfl rfl (by kernel_rfl) (by kernel_rfl) (by kernel_rfl) (fun _ _ _ h => h) (by rfl) ?_ ?_
  rotate_left
  · intro W hW
    go_simp
    try with_reducible rfl
  simp only [Act.put, List.setIfInBounds_toArray, List.set_cons_zero, List.set_cons_succ]
  refine held_take (i := 33) (v := ?_) rfl rfl (by kernel_rfl) (by kernel_rfl) (by kernel_rfl) (fun _ _ _ h => h) (by rfl) ?_ ?_
  rotate_left
  · intro W hW
    go_simp
    try with_reducible rfl
  simp only [Act.put, List.setIfInBounds_toArray, List.set_cons_zero, List.set_cons_succ]
  refine wpAnyH_done (by kernel_rfl) ?_ _
  go_wp2
  go_ret
  exact ⟨rfl, HBh.out⟩
set_option maxHeartbeats 8000000 in
theorem new_few (sz pgs x P : Int) (A : Option Addr) (n c : Nat) (w : World) (hn5 : n ≤ 5000) (g1 : ¬ sz < 512) (g2 : ¬ 8192 < sz) (g3 : pgs < 1) :
    Calls Try.prog 3 #[.int .i64 sz, .int .i64 pgs, .int .i64 x, .agg #[.int .i64 P, .slice A n c]] w fun e w' => e = .returned (.bool true) ∧ Below w.heap.size w w' := by
  have h1 : ¬ (5000 : Int) < (n : Int) := by omega
  obtain ⟨J, hJ⟩ := Int.eq_ofNat_of_zero_le (show 0 ≤ x % 8 % 5 by omega)
  have hJl : J < 5 := by omega
  have hJI : (J : Int) < 5 := by omega
  have hb0 := ((Below.refl w.heap.size w).alloc (Nat.le_refl _) (.cells #[.int .i64 P, .slice A n c] 24)).alloc (by simp) (.cells #[.int .i64 511, .int .i64 512, .int .i64 513, .int .i64 700, .int .i64 0] 3)
  have hf := (Cs.new w 24 [.int .i64 P, .slice A n c]).grow (.cells #[.int .i64 511, .int .i64 512, .int .i64 513, .int .i64 700, .int .i64 0] 3)
  have ht := Cs.new2 w (.cells #[.int .i64 P, .slice A n c] 24) 3 [.int .i64 511, .int .i64 512, .int .i64 513, .int .i64 700, .int .i64 0]
  obtain ⟨pv, hpv⟩ : ∃ pv : Int, ([.int .i64 511, .int .i64 512, .int .i64 513, .int .i64 700, .int .i64 0] : List Value)[J]? = some (.int .i64 pv) := by
    rcases (by omega : J = 0 ∨ J = 1 ∨ J = 2 ∨ J = 3 ∨ J = 4) with rfl | rfl | rfl | rfl | rfl <;> exact ⟨_, rfl⟩
  have hcJ := (ht.cell J).trans hpv
  have e1 := fun w => newE_all pv (x / 8 % 16 - 2) w
  have e2 := fun w => newR_all pv (x / 8 % 16 - 2) w
  have e3 := fun w => newE_all sz pgs w
  have e4 := fun w => vldE_all P A n c w (by omega)
  have e5 := fun w => valR_any P A n c w (by omega)
  have hE : newE sz pgs = 9 := by unfold newE; exact if_pos (by omega)
  rw [hE] at e3
  generalize ifE (newE pv (x / 8 % 16 - 2)) pv 0 = P1 at *
  generalize ifE (newE pv (x / 8 % 16 - 2)) (List.replicate (pv * (x / 8 % 16 - 2)).toNat (255 : Int)) [] = L1 at *
  generalize newE pv (x / 8 % 16 - 2) = E1 at *
  have hnil : ifE (9 : Int) (List.replicate (sz * pgs).toNat (255 : Int)) [] = [] := rfl
  rw [hnil] at e3
  generalize ifE (9 : Int) sz 0 = P3 at *
  generalize valE P n = VE at *
  have D1 := Lib.hid e1
  have D2 := Lib.hid e2
  have D3 := Lib.hid e3
  have D4 := Lib.hid e4
  have D5 := Lib.hid e5
  have HB0 := Lib.hid hb0
  have HF := Lib.hid hf
  clear e1 e2 e3 e4 e5 hE hb0 hf ht hpv hJl hn5 hnil
  go_enter Try.func3, Try.ntmps3
  go_wp2_with fail
  refine (D1.out _).mono ?_
  rintro e w1 ⟨A1, n1, c1, rfl, hy, _, _, hb⟩
  have hbx := (Below.refl w1.heap.size w1).alloc (Nat.le_refl _) (.cells #[.int .i64 P1, .slice A1 n1 c1] 24)
  have HY1 := Lib.hid (hy.below hbx)
  have HB1 := Lib.hid (HB0.out.trans ((hb.trans (hbx.mono hb.size)).mono HB0.out.size))
  have HX1 := Lib.hid (Cs.new w1 24 [.int .i64 P1, .slice A1 n1 c1])
  have hHF := (HF.out.below hb HF.out.lt).grow (.cells #[.int .i64 P1, .slice A1 n1 c1] 24)
  clear hbx hb
  clear hy
  clear HF
  have HF := Lib.hid hHF
  clear hHF
  go_wp2_with fail
  refine (D2.out _).mono ?_
  rintro e w2 ⟨A2, n2, c2, rfl, hy, _, _, hb⟩
  have hbx := (Below.refl w2.heap.size w2).alloc (Nat.le_refl _) (.cells #[.int .i64 P1, .slice A2 n2 c2] 24)
  have HY2 := Lib.hid (hy.below hbx)
  have HB2 := Lib.hid (HB1.out.trans ((hb.trans (hbx.mono hb.size)).mono HB1.out.size))
  have HX2 := Lib.hid (Cs.new w2 24 [.int .i64 P1, .slice A2 n2 c2])
  have hHF := (HF.out.below hb HF.out.lt).grow (.cells #[.int .i64 P1, .slice A2 n2 c2] 24)
  have hHX1 := (HX1.out.below hb HX1.out.lt).grow (.cells #[.int .i64 P1, .slice A2 n2 c2] 24)
  have HYo12 := Lib.hid ((HY1.out.below hb).below hbx)
  clear hbx hb
  clear hy
  clear HF
  have HF := Lib.hid hHF
  clear hHF
  clear HX1
  have HX1 := Lib.hid hHX1
  clear hHX1
  go_wp2_with fail
  refine (D3.out _).mono ?_
  rintro e w3 ⟨A3, n3, c3, rfl, hy, _, _, hb⟩
  have hbx := (Below.refl w3.heap.size w3).alloc (Nat.le_refl _) (.cells #[.int .i64 P3, .slice A3 n3 c3] 24)
  have HY3 := Lib.hid (hy.below hbx)
  have HB3 := Lib.hid (HB2.out.trans ((hb.trans (hbx.mono hb.size)).mono HB2.out.size))
  have HX3 := Lib.hid (Cs.new w3 24 [.int .i64 P3, .slice A3 n3 c3])
  have hHF := (HF.out.below hb HF.out.lt).grow (.cells #[.int .i64 P3, .slice A3 n3 c3] 24)
  have hHX1 := (HX1.out.below hb HX1.out.lt).grow (.cells #[.int .i64 P3, .slice A3 n3 c3] 24)
  have hHX2 := (HX2.out.below hb HX2.out.lt).grow (.cells #[.int .i64 P3, .slice A3 n3 c3] 24)
  have HYo13 := Lib.hid ((HYo12.out.below hb).below hbx)
  have HYo23 := Lib.hid ((HY2.out.below hb).below hbx)
  clear hbx hb
  have hz : n3 = 0 := hy.len.symm.trans rfl
  subst hz
  clear hy
  clear HF
  have HF := Lib.hid hHF
  clear hHF
  clear HX1
  have HX1 := Lib.hid hHX1
  clear hHX1
  clear HX2
  have HX2 := Lib.hid hHX2
  clear hHX2
  have HYA := Lib.hid (HYo13.out.below (Below.refl _ _).drew)
  have HYB := Lib.hid (HYo23.out.below (Below.refl _ _).drew)
  have HFd := Lib.hid HF.out.drew
  have HXa := Lib.hid HX1.out.drew
  have HXb := Lib.hid HX2.out.drew
  have HXc := Lib.hid HX3.out.drew
  have HBd := Lib.hid HB3.out.drew
  go_wp2_with fail
  refine held_begin (by kernel_rfl) ?_
  refine held_take (i := 0) (v := ?_) rfl rfl (by kernel_rfl) (by kernel_rfl) (by kernel_rfl) (fun _ _ _ h => h) (by rfl) ?_ ?_
  rotate_left
  · intro W hW
    go_simp
    try with_reducible rfl
  simp only [Act.put, List.setIfInBounds_toArray, List.set_cons_zero, List.set_cons_succ]
  refine held_take (i := 1) (v := ?_) rfl rfl (by kernel_rfl) (by kernel_rfl) (by kernel_rfl) (fun _ _ _ h => h) (by rfl) ?_ ?_
  rotate_left
  · intro W hW
    go_simp
    try with_reducible rfl
  simp only [Act.put, List.setIfInBounds_toArray, List.set_cons_zero, List.set_cons_succ]
  refine held_take (i := 2) (v := ?_) rfl rfl (by kernel_rfl) (by kernel_rfl) (by kernel_rfl) (fun _ _ _ h => h) (by rfl) ?_ ?_
  rotate_left
  · intro W hW
    go_simp
    try with_reducible rfl
  simp only [Act.put, List.setIfInBounds_toArray, List.set_cons_zero, List.set_cons_succ]
  refine held_take (i := 3) (v := ?_) rfl rfl (by kernel_rfl) (by kernel_rfl) (by kernel_rfl) (fun _ _ _ h => h) (by rfl) ?_ ?_
  rotate_left
  · intro W hW
    go_simp
    try with_reducible rfl
  simp only [Act.put, List.setIfInBounds_toArray, List.set_cons_zero, List.set_cons_succ]
  refine held_take (i := 4) (v := ?_) rfl rfl (by kernel_rfl) (by kernel_rfl) (by kernel_rfl) (fun _ _ _ h => h) (by rfl) ?_ ?_
  rotate_left
  · intro W hW
    have z0 := (HXa.out.below hW HXa.out.lt).cell 0
    have y0 := (HXa.out.below hW HXa.out.lt).cell 1
    simp only [List.getElem?_cons_succ, List.getElem?_cons_zero] at z0 y0
    go_simp
    try with_reducible rfl
  simp only [Act.put, List.setIfInBounds_toArray, List.set_cons_zero, List.set_cons_succ]
  refine held_take (i := 5) (v := ?_) rfl rfl (by kernel_rfl) (by kernel_rfl) (by kernel_rfl) (fun _ _ _ h => h) (by rfl) ?_ ?_
  rotate_left
  · intro W hW
    have z0 := (HXb.out.below hW HXb.out.lt).cell 0
    have y0 := (HXb.out.below hW HXb.out.lt).cell 1
    simp only [List.getElem?_cons_succ, List.getElem?_cons_zero] at z0 y0
    go_simp
    try with_reducible rfl
  simp only [Act.put, List.setIfInBounds_toArray, List.set_cons_zero, List.set_cons_succ]
  refine held_call (i := 6) (by kernel_rfl) rfl (fun K' hK => ?_)
  rw [if_pos (by rfl)]
  go_simp
  refine (same_any P1 A1 A2 n1 c1 n2 c2 L1 _ HYA.out HYB.out).mono ?_
  rintro e w4 ⟨rfl, hb⟩
  refine hK.out _ _ hb ?_
  clear hK K'
  have HFe := Lib.hid (HFd.out.below hb HFd.out.lt)
  have HXe := Lib.hid (HXc.out.below hb HXc.out.lt)
  have HBe := Lib.hid (HBd.out.trans (hb.mono HBd.out.size))
  clear hb
  refine held_take (i := 7) (v := ?_) rfl rfl (by kernel_rfl) (by kernel_rfl) (by kernel_rfl) (fun _ _ _ h => h) (by rfl) ?_ ?_
  rotate_left
  · intro W hW
    go_simp
    try with_reducible rfl
  simp only [Act.put, List.setIfInBounds_toArray, List.set_cons_zero, List.set_cons_succ]
  refine held_take (i := 8) (v := ?_) rfl rfl (by kernel_rfl) (by kernel_rfl) (by kernel_rfl) (fun _ _ _ h => h) (by rfl) ?_ ?_
  rotate_left
  · intro W hW
    go_simp
    try with_reducible rfl
  simp only [Act.put, List.setIfInBounds_toArray, List.set_cons_zero, List.set_cons_succ]
  refine held_take (i := 9) (v := ?_) rfl rfl (by kernel_rfl) (by kernel_rfl) (by kernel_rfl) (fun _ _ _ h => h) (by rfl) ?_ ?_
  rotate_left
  · intro W hW
    go_simp
    try with_reducible rfl
  simp only [Act.put, List.setIfInBounds_toArray, List.set_cons_zero, List.set_cons_succ]
  refine held_take (i := 10) (v := ?_) rfl rfl (by kernel_rfl) (by kernel_rfl) (by kernel_rfl) (fun _ _ _ h => h) (by rfl) ?_ ?_
  rotate_left
  · intro W hW
    go_simp
    try with_reducible rfl
  simp only [Act.put, List.setIfInBounds_toArray, List.set_cons_zero, List.set_cons_succ]
  refine held_take (i := 11) (v := ?_) rfl rfl (by kernel_rfl) (by kernel_rfl) (by kernel_rfl) (fun _ _ _ h => h) (by rfl) ?_ ?_
  rotate_left
  · intro W hW
    go_simp
    try with_reducible rfl
  simp only [Act.put, List.setIfInBounds_toArray, List.set_cons_zero, List.set_cons_succ]
  refine held_take (i := 12) (v := ?_) rfl rfl (by kernel_rfl) (by kernel_rfl) (by kernel_rfl) (fun _ _ _ h => h) (by rfl) ?_ ?_
  rotate_left
  · intro W hW
    go_simp
    try with_reducible rfl
  simp only [Act.put, List.setIfInBounds_toArray, List.set_cons_zero, List.set_cons_succ]
  refine held_take (i := 13) (v := ?_) rfl rfl (by kernel_rfl) (by kernel_rfl) (by kernel_rfl) (fun _ _ _ h => h) (by rfl) ?_ ?_
  rotate_left
  · intro W hW
    go_simp
    try with_reducible rfl
  simp only [Act.put, List.setIfInBounds_toArray, List.set_cons_zero, List.set_cons_succ]
  refine held_take (i := 14) (v := ?_) rfl rfl (by kernel_rfl) (by kernel_rfl) (by kernel_rfl) (fun _ _ _ h => h) (by rfl) ?_ ?_
  rotate_left
  · intro W hW
    go_simp
    try with_reducible rfl
  simp only [Act.put, List.setIfInBounds_toArray, List.set_cons_zero, List.set_cons_succ]
  refine held_take (i := 15) (v := ?_) rfl rfl (by kernel_rfl) (by kernel_rfl) (by kernel_rfl) (fun _ _ _ h => h) (by rfl) ?_ ?_
  rotate_left
  · intro W hW
    go_simp
    try with_reducible rfl
  simp only [Act.put, List.setIfInBounds_toArray, List.set_cons_zero, List.set_cons_succ]
  refine held_take (i := 16) (v := ?_) rfl rfl (by kernel_rfl) (by kernel_rfl) (by kernel_rfl) (fun _ _ _ h => h) (by rfl) ?_ ?_
  rotate_left
  · intro W hW
    go_simp
    try with_reducible rfl
  simp only [Act.put, List.setIfInBounds_toArray, List.set_cons_zero, List.set_cons_succ]
  refine held_take (i := 17) (v := ?_) rfl rfl (by kernel_rfl) (by kernel_rfl) (by kernel_rfl) (fun _ _ _ h => h) (by rfl) ?_ ?_
  rotate_left
  · intro W hW
    go_simp
    try with_reducible rfl
  simp only [Act.put, List.setIfInBounds_toArray, List.set_cons_zero, List.set_cons_succ]
  refine held_take (i := 18) (v := ?_) rfl rfl (by kernel_rfl) (by kernel_rfl) (by kernel_rfl) (fun _ _ _ h => h) (by rfl) ?_ ?_
  rotate_left
  · intro W hW
    have z0 := (HXe.out.below hW HXe.out.lt).cell 0
    have y0 := (HXe.out.below hW HXe.out.lt).cell 1
    simp only [List.getElem?_cons_succ, List.getElem?_cons_zero] at z0 y0
    go_simp
    try with_reducible rfl
  simp only [Act.put, List.setIfInBounds_toArray, List.set_cons_zero, List.set_cons_succ]
  refine held_take (i := 19) (v := ?_) rfl rfl (by kernel_rfl) (by kernel_rfl) (by kernel_rfl) (fun _ _ _ h => h) (by rfl) ?_ ?_
  rotate_left
  · intro W hW
    go_simp
    try with_reducible rfl
  simp only [Act.put, List.setIfInBounds_toArray, List.set_cons_zero, List.set_cons_succ]
  refine held_take (i := 20) (v := ?_) rfl rfl (by kernel_rfl) (by kernel_rfl) (by kernel_rfl) (fun _ _ _ h => h) (by rfl) ?_ ?_
  rotate_left
  · intro W hW
    go_simp
    try with_reducible rfl
  simp only [Act.put, List.setIfInBounds_toArray, List.set_cons_zero, List.set_cons_succ]
  refine held_take (i := 21) (v := ?_) rfl rfl (by kernel_rfl) (by kernel_rfl) (by kernel_rfl) (fun _ _ _ h => h) (by rfl) ?_ ?_
  rotate_left
  · intro W hW
    go_simp
    try with_reducible rfl
  simp only [Act.put, List.setIfInBounds_toArray, List.set_cons_zero, List.set_cons_succ]
  refine held_take (i := 22) (v := ?_) rfl rfl (by kernel_rfl) (by kernel_rfl) (by kernel_rfl) (fun _ _ _ h => h) (by rfl) ?_ ?_
  rotate_left
  · intro W hW
    go_simp
    try with_reducible rfl
  simp only [Act.put, List.setIfInBounds_toArray, List.set_cons_zero, List.set_cons_succ]
  refine held_take (i := 23) (v := ?_) rfl rfl (by kernel_rfl) (by kernel_rfl) (by kernel_rfl) (fun _ _ _ h => h) (by rfl) ?_ ?_
  rotate_left
  · intro W hW
    go_simp
    try with_reducible rfl
  simp only [Act.put, List.setIfInBounds_toArray, List.set_cons_zero, List.set_cons_succ]
  refine held_take (i := 24) (v := ?_) rfl rfl (by kernel_rfl) (by kernel_rfl) (by kernel_rfl) (fun _ _ _ h => h) (by rfl) ?_ ?_
  rotate_left
  · intro W hW
    have z0 := (HFe.out.below hW HFe.out.lt).cell 0
    have y0 := (HFe.out.below hW HFe.out.lt).cell 1
    simp only [List.getElem?_cons_succ, List.getElem?_cons_zero] at z0 y0
    go_simp
    try with_reducible rfl
  simp only [Act.put, List.setIfInBounds_toArray, List.set_cons_zero, List.set_cons_succ]
  refine held_take (i := 26) (v := ?_) rfl rfl (by kernel_rfl) (by kernel_rfl) (by kernel_rfl) (fun _ _ _ h => h) (by rfl) ?_ ?_
  rotate_left
  · intro W hW
    have z0 := (HFe.out.below hW HFe.out.lt).cell 0
    have y0 := (HFe.out.below hW HFe.out.lt).cell 1
    simp only [List.getElem?_cons_succ, List.getElem?_cons_zero] at z0 y0
    go_simp
    try with_reducible rfl
  simp only [Act.put, List.setIfInBounds_toArray, List.set_cons_zero, List.set_cons_succ]
  refine held_call (i := 25) (by kernel_rfl) rfl (fun K' hK => ?_)
  rw [if_pos (by rfl)]
  go_simp
  refine (D4.out _).mono ?_
  rintro e w5 ⟨rfl, hb⟩
  refine hK.out _ _ hb ?_
  clear hK K'
  have HBf := Lib.hid (HBe.out.trans (hb.mono HBe.out.size))
  clear hb
  refine held_call (i := 27) (by kernel_rfl) rfl (fun K' hK => ?_)
  rw [if_pos (by rfl)]
  go_simp
  refine (D5.out _).mono ?_
  rintro e w6 ⟨rfl, hb⟩
  refine hK.out _ _ hb ?_
  clear hK K'
  have HBg := Lib.hid (HBf.out.trans (hb.mono HBf.out.size))
  clear hb
  refine held_take (i := 28) (v := ?_) rfl rfl (by kernel_rfl) (by kernel_rfl) (by kernel_rfl) (fun _ _ _ h => h) (by rfl) ?_ ?_
  rotate_left
  · intro W hW
    go_simp
    try with_reducible rfl
  simp only [Act.put, List.setIfInBounds_toArray, List.set_cons_zero, List.set_cons_succ]
  refine held_take (i := 29) (v := ?_) rfl rfl (by kernel_rfl) (by kernel_rfl) (by kernel_rfl) (fun _ _ _ h => h) (by rfl) ?_ ?_
  rotate_left
  · intro W hW
    go_simp
    try with_reducible rfl
  simp only [Act.put, List.setIfInBounds_toArray, List.set_cons_zero, List.set_cons_succ]
  refine held_take (i := 30) (v := ?_) rfl rfl (by kernel_rfl) (by kernel_rfl) (by kernel_rfl) (fun _ _ _ h => h) (by rfl) ?_ ?_
  rotate_left
  · intro W hW
    go_simp
    try with_reducible rfl
  simp only [Act.put, List.setIfInBounds_toArray, List.set_cons_zero, List.set_cons_succ]
  refine held_call (i := 31) (by kernel_rfl) rfl (fun K' hK => ?_)
  rw [if_pos (by rfl)]
  go_simp
  refine (awake7_any _).mono ?_
  rintro e w7 ⟨rfl, hb⟩
  refine hK.out _ _ hb ?_
  clear hK K'
  have HBh := Lib.hid (HBg.out.trans (hb.mono HBg.out.size))
  clear hb
  refine held_take (i := 32) (v := ?_) rfl rfl (by kernel_rfl) (by kernel_rfl) (by kernel_rfl) (fun _ _ _ h => h) (by rfl) ?_ ?_
  rotate_left
  · intro W hW
    go_simp
    try with_reducible rfl
  simp only [Act.put, List.setIfInBounds_toArray, List.set_cons_zero, List.set_cons_succ]
  refine held_take (i := 33) (v := ?_) rfl rfl (by kernel_rfl) (by kernel_rfl) (by kernel_rfl) (fun _ _ _ h => h) (by rfl) ?_ ?_
  rotate_left
  · intro W hW
    go_simp
    try with_reducible rfl
  simp only [Act.put, List.setIfInBounds_toArray, List.set_cons_zero, List.set_cons_succ]
  refine wpAnyH_done (by kernel_rfl) ?_ _
  go_wp2
  go_ret
  exact ⟨rfl, HBh.out⟩
set_option maxHeartbeats 8000000 in
theorem new_many (sz pgs x P : Int) (A : Option Addr) (n c : Nat) (w : World) (hn5 : n ≤ 5000) (g1 : ¬ sz < 512) (g2 : ¬ 8192 < sz) (g3 : ¬ pgs < 1) (g4 : 8 < pgs) :
    Calls Try.prog 3 #[.int .i64 sz, .int .i64 pgs, .int .i64 x, .agg #[.int .i64 P, .slice A n c]] w fun e w' => e = .returned (.bool true) ∧ Below w.heap.size w w' := by
  have h1 : ¬ (5000 : Int) < (n : Int) := by omega
  obtain ⟨J, hJ⟩ := Int.eq_ofNat_of_zero_le (show 0 ≤ x % 8 % 5 by omega)
  have hJl : J < 5 := by omega
  have hJI : (J : Int) < 5 := by omega
  have hb0 := ((Below.refl w.heap.size w).alloc (Nat.le_refl _) (.cells #[.int .i64 P, .slice A n c] 24)).alloc (by simp) (.cells #[.int .i64 511, .int .i64 512, .int .i64 513, .int .i64 700, .int .i64 0] 3)
  have hf := (Cs.new w 24 [.int .i64 P, .slice A n c]).grow (.cells #[.int .i64 511, .int .i64 512, .int .i64 513, .int .i64 700, .int .i64 0] 3)
  have ht := Cs.new2 w (.cells #[.int .i64 P, .slice A n c] 24) 3 [.int .i64 511, .int .i64 512, .int .i64 513, .int .i64 700, .int .i64 0]
  obtain ⟨pv, hpv⟩ : ∃ pv : Int, ([.int .i64 511, .int .i64 512, .int .i64 513, .int .i64 700, .int .i64 0] : List Value)[J]? = some (.int .i64 pv) := by
    rcases (by omega : J = 0 ∨ J = 1 ∨ J = 2 ∨ J = 3 ∨ J = 4) with rfl | rfl | rfl | rfl | rfl <;> exact ⟨_, rfl⟩
  have hcJ := (ht.cell J).trans hpv
  have e1 := fun w => newE_all pv (x / 8 % 16 - 2) w
  have e2 := fun w => newR_all pv (x / 8 % 16 - 2) w
  have e3 := fun w => newE_all sz pgs w
  have e4 := fun w => vldE_all P A n c w (by omega)
  have e5 := fun w => valR_any P A n c w (by omega)
  have hE : newE sz pgs = 9 := by unfold newE; exact if_pos (by omega)
  rw [hE] at e3
  generalize ifE (newE pv (x / 8 % 16 - 2)) pv 0 = P1 at *
  generalize ifE (newE pv (x / 8 % 16 - 2)) (List.replicate (pv * (x / 8 % 16 - 2)).toNat (255 : Int)) [] = L1 at *
  generalize newE pv (x / 8 % 16 - 2) = E1 at *
  have hnil : ifE (9 : Int) (List.replicate (sz * pgs).toNat (255 : Int)) [] = [] := rfl
  rw [hnil] at e3
  generalize ifE (9 : Int) sz 0 = P3 at *
  generalize valE P n = VE at *
  have D1 := Lib.hid e1
  have D2 := Lib.hid e2
  have D3 := Lib.hid e3
  have D4 := Lib.hid e4
  have D5 := Lib.hid e5
  have HB0 := Lib.hid hb0
  have HF := Lib.hid hf
  clear e1 e2 e3 e4 e5 hE hb0 hf ht hpv hJl hn5 hnil
  go_enter Try.func3, Try.ntmps3
  go_wp2_with fail
  refine (D1.out _).mono ?_
  rintro e w1 ⟨A1, n1, c1, rfl, hy, _, _, hb⟩
  have hbx := (Below.refl w1.heap.size w1).alloc (Nat.le_refl _) (.cells #[.int .i64 P1, .slice A1 n1 c1] 24)
  have HY1 := Lib.hid (hy.below hbx)
  have HB1 := Lib.hid (HB0.out.trans ((hb.trans (hbx.mono hb.size)).mono HB0.out.size))
  have HX1 := Lib.hid (Cs.new w1 24 [.int .i64 P1, .slice A1 n1 c1])
  have hHF := (HF.out.below hb HF.out.lt).grow (.cells #[.int .i64 P1, .slice A1 n1 c1] 24)
  clear hbx hb
  clear hy
  clear HF
  have HF := Lib.hid hHF
  clear hHF
  go_wp2_with fail
  refine (D2.out _).mono ?_
  rintro e w2 ⟨A2, n2, c2, rfl, hy, _, _, hb⟩
  have hbx := (Below.refl w2.heap.size w2).alloc (Nat.le_refl _) (.cells #[.int .i64 P1, .slice A2 n2 c2] 24)
  have HY2 := Lib.hid (hy.below hbx)
  have HB2 := Lib.hid (HB1.out.trans ((hb.trans (hbx.mono hb.size)).mono HB1.out.size))
  have HX2 := Lib.hid (Cs.new w2 24 [.int .i64 P1, .slice A2 n2 c2])
  have hHF := (HF.out.below hb HF.out.lt).grow (.cells #[.int .i64 P1, .slice A2 n2 c2] 24)
  have hHX1 := (HX1.out.below hb HX1.out.lt).grow (.cells #[.int .i64 P1, .slice A2 n2 c2] 24)
  have HYo12 := Lib.hid ((HY1.out.below hb).below hbx)
  clear hbx hb
  clear hy
  clear HF
  have HF := Lib.hid hHF
  clear hHF
  clear HX1
  have HX1 := Lib.hid hHX1
  clear hHX1
  go_wp2_with fail
  refine (D3.out _).mono ?_
  rintro e w3 ⟨A3, n3, c3, rfl, hy, _, _, hb⟩
  have hbx := (Below.refl w3.heap.size w3).alloc (Nat.le_refl _) (.cells #[.int .i64 P3, .slice A3 n3 c3] 24)
  have HY3 := Lib.hid (hy.below hbx)
  have HB3 := Lib.hid (HB2.out.trans ((hb.trans (hbx.mono hb.size)).mono HB2.out.size))
  have HX3 := Lib.hid (Cs.new w3 24 [.int .i64 P3, .slice A3 n3 c3])
  have hHF := (HF.out.below hb HF.out.lt).grow (.cells #[.int .i64 P3, .slice A3 n3 c3] 24)
  have hHX1 := (HX1.out.below hb HX1.out.lt).grow (.cells #[.int .i64 P3, .slice A3 n3 c3] 24)
  have hHX2 := (HX2.out.below hb HX2.out.lt).grow (.cells #[.int .i64 P3, .slice A3 n3 c3] 24)
  have HYo13 := Lib.hid ((HYo12.out.below hb).below hbx)
  have HYo23 := Lib.hid ((HY2.out.below hb).below hbx)
  clear hbx hb
  have hz : n3 = 0 := hy.len.symm.trans rfl
  subst hz
  clear hy
  clear HF
  have HF := Lib.hid hHF
  clear hHF
  clear HX1
  have HX1 := Lib.hid hHX1
  clear hHX1
  clear HX2
  have HX2 := Lib.hid hHX2
  clear hHX2
  have HYA := Lib.hid (HYo13.out.below (Below.refl _ _).drew)
  have HYB := Lib.hid (HYo23.out.below (Below.refl _ _).drew)
  have HFd := Lib.hid HF.out.drew
  have HXa := Lib.hid HX1.out.drew
  have HXb := Lib.hid HX2.out.drew
  have HXc := Lib.hid HX3.out.drew
  have HBd := Lib.hid HB3.out.drew
  go_wp2_with fail
  refine held_begin (by kernel_rfl) ?_
  refine held_take (i := 0) (v := ?_) rfl rfl (by kernel_rfl) (by kernel_rfl) (by kernel_rfl) (fun _ _ _ h => h) (by rfl) ?_ ?_
  rotate_left
  · intro W hW
    go_simp
    try with_reducible rfl
  simp only [Act.put, List.setIfInBounds_toArray, List.set_cons_zero, List.set_cons_succ]
  refine held_take (i := 1) (v := ?_) rfl rfl (by kernel_rfl) (by kernel_rfl) (by kernel_rfl) (fun _ _ _ h => h) (by rfl) ?_ ?_
  rotate_left
  · intro W hW
    go_simp
    try with_reducible rfl
  simp only [Act.put, List.setIfInBounds_toArray, List.set_cons_zero, List.set_cons_succ]
  refine held_take (i := 2) (v := ?_) rfl rfl (by kernel_rfl) (by kernel_rfl) (by kernel_rfl) (fun _ _ _ h => h) (by rfl) ?_ ?_
  rotate_left
  · intro W hW
    go_simp
    try with_reducible rfl
  simp only [Act.put, List.setIfInBounds_toArray, List.set_cons_zero, List.set_cons_succ]
  refine held_take (i := 3) (v := ?_) rfl rfl (by kernel_rfl) (by kernel_rfl) (by kernel_rfl) (fun _ _ _ h => h) (by rfl) ?_ ?_
  rotate_left
  · intro W hW
    go_simp
    try with_reducible rfl
  simp only [Act.put, List.setIfInBounds_toArray, List.set_cons_zero, List.set_cons_succ]
  refine held_take (i := 4) (v := ?_) rfl rfl (by kernel_rfl) (by kernel_rfl) (by kernel_rfl) (fun _ _ _ h => h) (by rfl) ?_ ?_
  rotate_left
  · intro W hW
    have z0 := (HXa.out.below hW HXa.out.lt).cell 0
    have y0 := (HXa.out.below hW HXa.out.lt).cell 1
    simp only [List.getElem?_cons_succ, List.getElem?_cons_zero] at z0 y0
    go_simp
    try with_reducible rfl
  simp only [Act.put, List.setIfInBounds_toArray, List.set_cons_zero, List.set_cons_succ]
  refine held_take (i := 5) (v := ?_) rfl rfl (by kernel_rfl) (by kernel_rfl) (by kernel_rfl) (fun _ _ _ h => h) (by rfl) ?_ ?_
  rotate_left
  · intro W hW
    have z0 := (HXb.out.below hW HXb.out.lt).cell 0
    have y0 := (HXb.out.below hW HXb.out.lt).cell 1
    simp only [List.getElem?_cons_succ, List.getElem?_cons_zero] at z0 y0
    go_simp
    try with_reducible rfl
  simp only [Act.put, List.setIfInBounds_toArray, List.set_cons_zero, List.set_cons_succ]
  refine held_call (i := 6) (by kernel_rfl) rfl (fun K' hK => ?_)
  rw [if_pos (by rfl)]
  go_simp
  refine (same_any P1 A1 A2 n1 c1 n2 c2 L1 _ HYA.out HYB.out).mono ?_
  rintro e w4 ⟨rfl, hb⟩
  refine hK.out _ _ hb ?_
  clear hK K'
  have HFe := Lib.hid (HFd.out.below hb HFd.out.lt)
  have HXe := Lib.hid (HXc.out.below hb HXc.out.lt)
  have HBe := Lib.hid (HBd.out.trans (hb.mono HBd.out.size))
  clear hb
  refine held_take (i := 7) (v := ?_) rfl rfl (by kernel_rfl) (by kernel_rfl) (by kernel_rfl) (fun _ _ _ h => h) (by rfl) ?_ ?_
  rotate_left
  · intro W hW
    go_simp
    try with_reducible rfl
  simp only [Act.put, List.setIfInBounds_toArray, List.set_cons_zero, List.set_cons_succ]
  refine held_take (i := 8) (v := ?_) rfl rfl (by kernel_rfl) (by kernel_rfl) (by kernel_rfl) (fun _ _ _ h => h) (by rfl) ?_ ?_
  rotate_left
  · intro W hW
    go_simp
    try with_reducible rfl
  simp only [Act.put, List.setIfInBounds_toArray, List.set_cons_zero, List.set_cons_succ]
  refine held_take (i := 9) (v := ?_) rfl rfl (by kernel_rfl) (by kernel_rfl) (by kernel_rfl) (fun _ _ _ h => h) (by rfl) ?_ ?_
  rotate_left
  · intro W hW
    go_simp
    try with_reducible rfl
  simp only [Act.put, List.setIfInBounds_toArray, List.set_cons_zero, List.set_cons_succ]
  refine held_take (i := 10) (v := ?_) rfl rfl (by kernel_rfl) (by kernel_rfl) (by kernel_rfl) (fun _ _ _ h => h) (by rfl) ?_ ?_
  rotate_left
  · intro W hW
    go_simp
    try with_reducible rfl
  simp only [Act.put, List.setIfInBounds_toArray, List.set_cons_zero, List.set_cons_succ]
  refine held_take (i := 11) (v := ?_) rfl rfl (by kernel_rfl) (by kernel_rfl) (by kernel_rfl) (fun _ _ _ h => h) (by rfl) ?_ ?_
  rotate_left
  · intro W hW
    go_simp
    try with_reducible rfl
  simp only [Act.put, List.setIfInBounds_toArray, List.set_cons_zero, List.set_cons_succ]
  refine held_take (i := 12) (v := ?_) rfl rfl (by kernel_rfl) (by kernel_rfl) (by kernel_rfl) (fun _ _ _ h => h) (by rfl) ?_ ?_
  rotate_left
  · intro W hW
    go_simp
    try with_reducible rfl
  simp only [Act.put, List.setIfInBounds_toArray, List.set_cons_zero, List.set_cons_succ]
  refine held_take (i := 13) (v := ?_) rfl rfl (by kernel_rfl) (by kernel_rfl) (by kernel_rfl) (fun _ _ _ h => h) (by rfl) ?_ ?_
  rotate_left
  · intro W hW
    go_simp
    try with_reducible rfl
  simp only [Act.put, List.setIfInBounds_toArray, List.set_cons_zero, List.set_cons_succ]
  refine held_take (i := 14) (v := ?_) rfl rfl (by kernel_rfl) (by kernel_rfl) (by kernel_rfl) (fun _ _ _ h => h) (by rfl) ?_ ?_
  rotate_left
  · intro W hW
    go_simp
    try with_reducible rfl
  simp only [Act.put, List.setIfInBounds_toArray, List.set_cons_zero, List.set_cons_succ]
  refine held_take (i := 15) (v := ?_) rfl rfl (by kernel_rfl) (by kernel_rfl) (by kernel_rfl) (fun _ _ _ h => h) (by rfl) ?_ ?_
  rotate_left
  · intro W hW
    go_simp
    try with_reducible rfl
  simp only [Act.put, List.setIfInBounds_toArray, List.set_cons_zero, List.set_cons_succ]
  refine held_take (i := 16) (v := ?_) rfl rfl (by kernel_rfl) (by kernel_rfl) (by kernel_rfl) (fun _ _ _ h => h) (by rfl) ?_ ?_
  rotate_left
  · intro W hW
    go_simp
    try with_reducible rfl
  simp only [Act.put, List.setIfInBounds_toArray, List.set_cons_zero, List.set_cons_succ]
  refine held_take (i := 17) (v := ?_) rfl rfl (by kernel_rfl) (by kernel_rfl) (by kernel_rfl) (fun _ _ _ h => h) (by rfl) ?_ ?_
  rotate_left
  · intro W hW
    go_simp
    try with_reducible rfl
  simp only [Act.put, List.setIfInBounds_toArray, List.set_cons_zero, List.set_cons_succ]
  refine held_take (i := 18) (v := ?_) rfl rfl (by kernel_rfl) (by kernel_rfl) (by kernel_rfl) (fun _ _ _ h => h) (by rfl) ?_ ?_
  rotate_left
  · intro W hW
    have z0 := (HXe.out.below hW HXe.out.lt).cell 0
    have y0 := (HXe.out.below hW HXe.out.lt).cell 1
    simp only [List.getElem?_cons_succ, List.getElem?_cons_zero] at z0 y0
    go_simp
    try with_reducible rfl
  simp only [Act.put, List.setIfInBounds_toArray, List.set_cons_zero, List.set_cons_succ]
  refine held_take (i := 19) (v := ?_) rfl rfl (by kernel_rfl) (by kernel_rfl) (by kernel_rfl) (fun _ _ _ h => h) (by rfl) ?_ ?_
  rotate_left
  · intro W hW
    go_simp
    try with_reducible rfl
  simp only [Act.put, List.setIfInBounds_toArray, List.set_cons_zero, List.set_cons_succ]
  refine held_take (i := 20) (v := ?_) rfl rfl (by kernel_rfl) (by kernel_rfl) (by kernel_rfl) (fun _ _ _ h => h) (by rfl) ?_ ?_
  rotate_left
  · intro W hW
    go_simp
    try with_reducible rfl
  simp only [Act.put, List.setIfInBounds_toArray, List.set_cons_zero, List.set_cons_succ]
  refine held_take (i := 21) (v := ?_) rfl rfl (by kernel_rfl) (by kernel_rfl) (by kernel_rfl) (fun _ _ _ h => h) (by rfl) ?_ ?_
  rotate_left
  · intro W hW
    go_simp
    try with_reducible rfl
  simp only [Act.put, List.setIfInBounds_toArray, List.set_cons_zero, List.set_cons_succ]
  refine held_take (i := 22) (v := ?_) rfl rfl (by kernel_rfl) (by kernel_rfl) (by kernel_rfl) (fun _ _ _ h => h) (by rfl) ?_ ?_
  rotate_left
  · intro W hW
    go_simp
    try with_reducible rfl
  simp only [Act.put, List.setIfInBounds_toArray, List.set_cons_zero, List.set_cons_succ]
  refine held_take (i := 23) (v := ?_) rfl rfl (by kernel_rfl) (by kernel_rfl) (by kernel_rfl) (fun _ _ _ h => h) (by rfl) ?_ ?_
  rotate_left
  · intro W hW
    go_simp
    try with_reducible rfl
  simp only [Act.put, List.setIfInBounds_toArray, List.set_cons_zero, List.set_cons_succ]
  refine held_take (i := 24) (v := ?_) rfl rfl (by kernel_rfl) (by kernel_rfl) (by kernel_rfl) (fun _ _ _ h => h) (by rfl) ?_ ?_
  rotate_left
  · intro W hW
    have z0 := (HFe.out.below hW HFe.out.lt).cell 0
    have y0 := (HFe.out.below hW HFe.out.lt).cell 1
    simp only [List.getElem?_cons_succ, List.getElem?_cons_zero] at z0 y0
    go_simp
    try with_reducible rfl
  simp only [Act.put, List.setIfInBounds_toArray, List.set_cons_zero, List.set_cons_succ]
  refine held_take (i := 26) (v := ?_) rfl rfl (by kernel_rfl) (by kernel_rfl) (by kernel_rfl) (fun _ _ _ h => h) (by rfl) ?_ ?_
  rotate_left
  · intro W hW
    have z0 := (HFe.out.below hW HFe.out.lt).cell 0
    have y0 := (HFe.out.below hW HFe.out.lt).cell 1
    simp only [List.getElem?_cons_succ, List.getElem?_cons_zero] at z0 y0
    go_simp
    try with_reducible rfl
  simp only [Act.put, List.setIfInBounds_toArray, List.set_cons_zero, List.set_cons_succ]
  refine held_call (i := 25) (by kernel_rfl) rfl (fun K' hK => ?_)
  rw [if_pos (by rfl)]
  go_simp
  refine (D4.out _).mono ?_
  rintro e w5 ⟨rfl, hb⟩
  refine hK.out _ _ hb ?_
  clear hK K'
  have HBf := Lib.hid (HBe.out.trans (hb.mono HBe.out.size))
  clear hb
  refine held_call (i := 27) (by kernel_rfl) rfl (fun K' hK => ?_)
  rw [if_pos (by rfl)]
  go_simp
  refine (D5.out _).mono ?_
  rintro e w6 ⟨rfl, hb⟩
  refine hK.out _ _ hb ?_
  clear hK K'
  have HBg := Lib.hid (HBf.out.trans (hb.mono HBf.out.size))
  clear hb
  refine held_take (i := 28) (v := ?_) rfl rfl (by kernel_rfl) (by kernel_rfl) (by kernel_rfl) (fun _ _ _ h => h) (by rfl) ?_ ?_
  rotate_left
  · intro W hW
    go_simp
    try with_reducible rfl
  simp only [Act.put, List.setIfInBounds_toArray, List.set_cons_zero, List.set_cons_succ]
  refine held_take (i := 29) (v := ?_) rfl rfl (by kernel_rfl) (by kernel_rfl) (by kernel_rfl) (fun _ _ _ h => h) (by rfl) ?_ ?_
  rotate_left
  · intro W hW
    go_simp
    try with_reducible rfl
  simp only [Act.put, List.setIfInBounds_toArray, List.set_cons_zero, List.set_cons_succ]
  refine held_take (i := 30) (v := ?_) rfl rfl (by kernel_rfl) (by kernel_rfl) (by kernel_rfl) (fun _ _ _ h => h) (by rfl) ?_ ?_
  rotate_left
  · intro W hW
    go_simp
    try with_reducible rfl
  simp only [Act.put, List.setIfInBounds_toArray, List.set_cons_zero, List.set_cons_succ]
  refine held_call (i := 31) (by kernel_rfl) rfl (fun K' hK => ?_)
  rw [if_pos (by rfl)]
  go_simp
  refine (awake7_any _).mono ?_
  rintro e w7 ⟨rfl, hb⟩
  refine hK.out _ _ hb ?_
  clear hK K'
  have HBh := Lib.hid (HBg.out.trans (hb.mono HBg.out.size))
  clear hb
  refine held_take (i := 32) (v := ?_) rfl rfl (by kernel_rfl) (by kernel_rfl) (by kernel_rfl) (fun _ _ _ h => h) (by rfl) ?_ ?_
  rotate_left
  · intro W hW
    go_simp
    try with_reducible rfl
  simp only [Act.put, List.setIfInBounds_toArray, List.set_cons_zero, List.set_cons_succ]
  refine held_take (i := 33) (v := ?_) rfl rfl (by kernel_rfl) (by kernel_rfl) (by kernel_rfl) (fun _ _ _ h => h) (by rfl) ?_ ?_
  rotate_left
  · intro W hW
    go_simp
    try with_reducible rfl
  simp only [Act.put, List.setIfInBounds_toArray, List.set_cons_zero, List.set_cons_succ]
  refine wpAnyH_done (by kernel_rfl) ?_ _
  go_wp2
  go_ret
  exact ⟨rfl, HBh.out⟩
set_option maxHeartbeats 8000000 in
theorem new_okk (sz pgs x P : Int) (A : Option Addr) (n c : Nat) (w : World) (hn5 : n ≤ 5000) (g1 : ¬ sz < 512) (g2 : ¬ 8192 < sz) (g3 : ¬ pgs < 1) (g4 : ¬ 8 < pgs) :
    Calls Try.prog 3 #[.int .i64 sz, .int .i64 pgs, .int .i64 x, .agg #[.int .i64 P, .slice A n c]] w fun e w' => e = .returned (.bool true) ∧ Below w.heap.size w w' := by
  have h1 : ¬ (5000 : Int) < (n : Int) := by omega
  obtain ⟨J, hJ⟩ := Int.eq_ofNat_of_zero_le (show 0 ≤ x % 8 % 5 by omega)
  have hJl : J < 5 := by omega
  have hJI : (J : Int) < 5 := by omega
  have hb0 := ((Below.refl w.heap.size w).alloc (Nat.le_refl _) (.cells #[.int .i64 P, .slice A n c] 24)).alloc (by simp) (.cells #[.int .i64 511, .int .i64 512, .int .i64 513, .int .i64 700, .int .i64 0] 3)
  have hf := (Cs.new w 24 [.int .i64 P, .slice A n c]).grow (.cells #[.int .i64 511, .int .i64 512, .int .i64 513, .int .i64 700, .int .i64 0] 3)
  have ht := Cs.new2 w (.cells #[.int .i64 P, .slice A n c] 24) 3 [.int .i64 511, .int .i64 512, .int .i64 513, .int .i64 700, .int .i64 0]
  obtain ⟨pv, hpv⟩ : ∃ pv : Int, ([.int .i64 511, .int .i64 512, .int .i64 513, .int .i64 700, .int .i64 0] : List Value)[J]? = some (.int .i64 pv) := by
    rcases (by omega : J = 0 ∨ J = 1 ∨ J = 2 ∨ J = 3 ∨ J = 4) with rfl | rfl | rfl | rfl | rfl <;> exact ⟨_, rfl⟩
  have hcJ := (ht.cell J).trans hpv
  have e1 := fun w => newE_all pv (x / 8 % 16 - 2) w
  have e2 := fun w => newR_all pv (x / 8 % 16 - 2) w
  have e3 := fun w => newE_all sz pgs w
  have e4 := fun w => vldE_all P A n c w (by omega)
  have e5 := fun w => valR_any P A n c w (by omega)
  have hE : newE sz pgs = 0 := by unfold newE; exact if_neg (by omega)
  rw [hE] at e3
  generalize ifE (newE pv (x / 8 % 16 - 2)) pv 0 = P1 at *
  generalize ifE (newE pv (x / 8 % 16 - 2)) (List.replicate (pv * (x / 8 % 16 - 2)).toNat (255 : Int)) [] = L1 at *
  generalize newE pv (x / 8 % 16 - 2) = E1 at *
  generalize ifE (0 : Int) sz 0 = P3 at *
  generalize ifE (0 : Int) (List.replicate (sz * pgs).toNat (255 : Int)) [] = L3 at *
  generalize valE P n = VE at *
  have D1 := Lib.hid e1
  have D2 := Lib.hid e2
  have D3 := Lib.hid e3
  have D4 := Lib.hid e4
  have D5 := Lib.hid e5
  have HB0 := Lib.hid hb0
  have HF := Lib.hid hf
  clear e1 e2 e3 e4 e5 hE hb0 hf ht hpv hJl hn5 
  go_enter Try.func3, Try.ntmps3
  go_wp2_with fail
  refine (D1.out _).mono ?_
  rintro e w1 ⟨A1, n1, c1, rfl, hy, _, _, hb⟩
  have hbx := (Below.refl w1.heap.size w1).alloc (Nat.le_refl _) (.cells #[.int .i64 P1, .slice A1 n1 c1] 24)
  have HY1 := Lib.hid (hy.below hbx)
  have HB1 := Lib.hid (HB0.out.trans ((hb.trans (hbx.mono hb.size)).mono HB0.out.size))
  have HX1 := Lib.hid (Cs.new w1 24 [.int .i64 P1, .slice A1 n1 c1])
  have hHF := (HF.out.below hb HF.out.lt).grow (.cells #[.int .i64 P1, .slice A1 n1 c1] 24)
  clear hbx hb
  clear hy
  clear HF
  have HF := Lib.hid hHF
  clear hHF
  go_wp2_with fail
  refine (D2.out _).mono ?_
  rintro e w2 ⟨A2, n2, c2, rfl, hy, _, _, hb⟩
  have hbx := (Below.refl w2.heap.size w2).alloc (Nat.le_refl _) (.cells #[.int .i64 P1, .slice A2 n2 c2] 24)
  have HY2 := Lib.hid (hy.below hbx)
  have HB2 := Lib.hid (HB1.out.trans ((hb.trans (hbx.mono hb.size)).mono HB1.out.size))
  have HX2 := Lib.hid (Cs.new w2 24 [.int .i64 P1, .slice A2 n2 c2])
  have hHF := (HF.out.below hb HF.out.lt).grow (.cells #[.int .i64 P1, .slice A2 n2 c2] 24)
  have hHX1 := (HX1.out.below hb HX1.out.lt).grow (.cells #[.int .i64 P1, .slice A2 n2 c2] 24)
  have HYo12 := Lib.hid ((HY1.out.below hb).below hbx)
  clear hbx hb
  clear hy
  clear HF
  have HF := Lib.hid hHF
  clear hHF
  clear HX1
  have HX1 := Lib.hid hHX1
  clear hHX1
  go_wp2_with fail
  refine (D3.out _).mono ?_
  rintro e w3 ⟨A3, n3, c3, rfl, hy, _, _, hb⟩
  have hbx := (Below.refl w3.heap.size w3).alloc (Nat.le_refl _) (.cells #[.int .i64 P3, .slice A3 n3 c3] 24)
  have HY3 := Lib.hid (hy.below hbx)
  have HB3 := Lib.hid (HB2.out.trans ((hb.trans (hbx.mono hb.size)).mono HB2.out.size))
  have HX3 := Lib.hid (Cs.new w3 24 [.int .i64 P3, .slice A3 n3 c3])
  have hHF := (HF.out.below hb HF.out.lt).grow (.cells #[.int .i64 P3, .slice A3 n3 c3] 24)
  have hHX1 := (HX1.out.below hb HX1.out.lt).grow (.cells #[.int .i64 P3, .slice A3 n3 c3] 24)
  have hHX2 := (HX2.out.below hb HX2.out.lt).grow (.cells #[.int .i64 P3, .slice A3 n3 c3] 24)
  have HYo13 := Lib.hid ((HYo12.out.below hb).below hbx)
  have HYo23 := Lib.hid ((HY2.out.below hb).below hbx)
  clear hbx hb
  clear hy
  clear HF
  have HF := Lib.hid hHF
  clear hHF
  clear HX1
  have HX1 := Lib.hid hHX1
  clear hHX1
  clear HX2
  have HX2 := Lib.hid hHX2
  clear hHX2
  have HYA := Lib.hid (HYo13.out.below (Below.refl _ _).drew)
  have HYB := Lib.hid (HYo23.out.below (Below.refl _ _).drew)
  have HFd := Lib.hid HF.out.drew
  have HXa := Lib.hid HX1.out.drew
  have HXb := Lib.hid HX2.out.drew
  have HXc := Lib.hid HX3.out.drew
  have HBd := Lib.hid HB3.out.drew
  go_wp2_with fail
  refine held_begin (by kernel_rfl) ?_
  refine held_take (i := 0) (v := ?_) rfl rfl (by kernel_rfl) (by kernel_rfl) (by kernel_rfl) (fun _ _ _ h => h) (by rfl) ?_ ?_
  rotate_left
  · intro W hW
    go_simp
    try with_reducible rfl
  simp only [Act.put, List.setIfInBounds_toArray, List.set_cons_zero, List.set_cons_succ]
  refine held_take (i := 1) (v := ?_) rfl rfl (by kernel_rfl) (by kernel_rfl) (by kernel_rfl) (fun _ _ _ h => h) (by rfl) ?_ ?_
  rotate_left
  · intro W hW
    go_simp
    try with_reducible rfl
  simp only [Act.put, List.setIfInBounds_toArray, List.set_cons_zero, List.set_cons_succ]
  refine held_take (i := 2) (v := ?_) rfl rfl (by kernel_rfl) (by kernel_rfl) (by kernel_rfl) (fun _ _ _ h => h) (by rfl) ?_ ?_
  rotate_left
  · intro W hW
    go_simp
    try with_reducible rfl
  simp only [Act.put, List.setIfInBounds_toArray, List.set_cons_zero, List.set_cons_succ]
  refine held_take (i := 3) (v := ?_) rfl rfl (by kernel_rfl) (by kernel_rfl) (by kernel_rfl) (fun _ _ _ h => h) (by rfl) ?_ ?_
  rotate_left
  · intro W hW
    go_simp
    try with_reducible rfl
  simp only [Act.put, List.setIfInBounds_toArray, List.set_cons_zero, List.set_cons_succ]
  refine held_take (i := 4) (v := ?_) rfl rfl (by kernel_rfl) (by kernel_rfl) (by kernel_rfl) (fun _ _ _ h => h) (by rfl) ?_ ?_
  rotate_left
  · intro W hW
    have z0 := (HXa.out.below hW HXa.out.lt).cell 0
    have y0 := (HXa.out.below hW HXa.out.lt).cell 1
    simp only [List.getElem?_cons_succ, List.getElem?_cons_zero] at z0 y0
    go_simp
    try with_reducible rfl
  simp only [Act.put, List.setIfInBounds_toArray, List.set_cons_zero, List.set_cons_succ]
  refine held_take (i := 5) (v := ?_) rfl rfl (by kernel_rfl) (by kernel_rfl) (by kernel_rfl) (fun _ _ _ h => h) (by rfl) ?_ ?_
  rotate_left
  · intro W hW
    have z0 := (HXb.out.below hW HXb.out.lt).cell 0
    have y0 := (HXb.out.below hW HXb.out.lt).cell 1
    simp only [List.getElem?_cons_succ, List.getElem?_cons_zero] at z0 y0
    go_simp
    try with_reducible rfl
  simp only [Act.put, List.setIfInBounds_toArray, List.set_cons_zero, List.set_cons_succ]
  refine held_call (i := 6) (by kernel_rfl) rfl (fun K' hK => ?_)
  rw [if_pos (by rfl)]
  go_simp
  refine (same_any P1 A1 A2 n1 c1 n2 c2 L1 _ HYA.out HYB.out).mono ?_
  rintro e w4 ⟨rfl, hb⟩
  refine hK.out _ _ hb ?_
  clear hK K'
  have HFe := Lib.hid (HFd.out.below hb HFd.out.lt)
  have HXe := Lib.hid (HXc.out.below hb HXc.out.lt)
  have HBe := Lib.hid (HBd.out.trans (hb.mono HBd.out.size))
  clear hb
  refine held_take (i := 7) (v := ?_) rfl rfl (by kernel_rfl) (by kernel_rfl) (by kernel_rfl) (fun _ _ _ h => h) (by rfl) ?_ ?_
  rotate_left
  · intro W hW
    go_simp
    try with_reducible rfl
  simp only [Act.put, List.setIfInBounds_toArray, List.set_cons_zero, List.set_cons_succ]
  refine held_take (i := 8) (v := ?_) rfl rfl (by kernel_rfl) (by kernel_rfl) (by kernel_rfl) (fun _ _ _ h => h) (by rfl) ?_ ?_
  rotate_left
  · intro W hW
    go_simp
    try with_reducible rfl
  simp only [Act.put, List.setIfInBounds_toArray, List.set_cons_zero, List.set_cons_succ]
  refine held_take (i := 9) (v := ?_) rfl rfl (by kernel_rfl) (by kernel_rfl) (by kernel_rfl) (fun _ _ _ h => h) (by rfl) ?_ ?_
  rotate_left
  · intro W hW
    go_simp
    try with_reducible rfl
  simp only [Act.put, List.setIfInBounds_toArray, List.set_cons_zero, List.set_cons_succ]
  refine held_take (i := 10) (v := ?_) rfl rfl (by kernel_rfl) (by kernel_rfl) (by kernel_rfl) (fun _ _ _ h => h) (by rfl) ?_ ?_
  rotate_left
  · intro W hW
    go_simp
    try with_reducible rfl
  simp only [Act.put, List.setIfInBounds_toArray, List.set_cons_zero, List.set_cons_succ]
  refine held_take (i := 11) (v := ?_) rfl rfl (by kernel_rfl) (by kernel_rfl) (by kernel_rfl) (fun _ _ _ h => h) (by rfl) ?_ ?_
  rotate_left
  · intro W hW
    go_simp
    try with_reducible rfl
  simp only [Act.put, List.setIfInBounds_toArray, List.set_cons_zero, List.set_cons_succ]
  refine held_take (i := 12) (v := ?_) rfl rfl (by kernel_rfl) (by kernel_rfl) (by kernel_rfl) (fun _ _ _ h => h) (by rfl) ?_ ?_
  rotate_left
  · intro W hW
    go_simp
    try with_reducible rfl
  simp only [Act.put, List.setIfInBounds_toArray, List.set_cons_zero, List.set_cons_succ]
  refine held_take (i := 13) (v := ?_) rfl rfl (by kernel_rfl) (by kernel_rfl) (by kernel_rfl) (fun _ _ _ h => h) (by rfl) ?_ ?_
  rotate_left
  · intro W hW
    go_simp
    try with_reducible rfl
  simp only [Act.put, List.setIfInBounds_toArray, List.set_cons_zero, List.set_cons_succ]
  refine held_take (i := 14) (v := ?_) rfl rfl (by kernel_rfl) (by kernel_rfl) (by kernel_rfl) (fun _ _ _ h => h) (by rfl) ?_ ?_
  rotate_left
  · intro W hW
    go_simp
    try with_reducible rfl
  simp only [Act.put, List.setIfInBounds_toArray, List.set_cons_zero, List.set_cons_succ]
  refine held_take (i := 15) (v := ?_) rfl rfl (by kernel_rfl) (by kernel_rfl) (by kernel_rfl) (fun _ _ _ h => h) (by rfl) ?_ ?_
  rotate_left
  · intro W hW
    go_simp
    try with_reducible rfl
  simp only [Act.put, List.setIfInBounds_toArray, List.set_cons_zero, List.set_cons_succ]
  refine held_take (i := 16) (v := ?_) rfl rfl (by kernel_rfl) (by kernel_rfl) (by kernel_rfl) (fun _ _ _ h => h) (by rfl) ?_ ?_
  rotate_left
  · intro W hW
    go_simp
    try with_reducible rfl
  simp only [Act.put, List.setIfInBounds_toArray, List.set_cons_zero, List.set_cons_succ]
  refine hs_skip (i := 17) rfl rfl (by kernel_rfl) (by kernel_rfl) (by kernel_rfl) (fun _ _ _ h => h) (by rfl) (Below.refl _ _) ?_
  simp only [Act.put, List.setIfInBounds_toArray, List.set_cons_zero, List.set_cons_succ]
  refine hs_skip (i := 18) rfl rfl (by kernel_rfl) (by kernel_rfl) (by kernel_rfl) (fun _ _ _ h => h) (by rfl) (Below.refl _ _) ?_
  simp only [Act.put, List.setIfInBounds_toArray, List.set_cons_zero, List.set_cons_succ]
  refine hs_skip (i := 19) rfl rfl (by kernel_rfl) (by kernel_rfl) (by kernel_rfl) (fun _ _ _ h => h) (by rfl) (Below.refl _ _) ?_
  simp only [Act.put, List.setIfInBounds_toArray, List.set_cons_zero, List.set_cons_succ]
  refine hs_skip (i := 20) rfl rfl (by kernel_rfl) (by kernel_rfl) (by kernel_rfl) (fun _ _ _ h => h) (by rfl) (Below.refl _ _) ?_
  simp only [Act.put, List.setIfInBounds_toArray, List.set_cons_zero, List.set_cons_succ]
  refine held_take (i := 21) (v := ?_) rfl rfl (by kernel_rfl) (by kernel_rfl) (by kernel_rfl) (fun _ _ _ h => h) (by rfl) ?_ ?_
  rotate_left
  · intro W hW
    go_simp
    try with_reducible rfl
  simp only [Act.put, List.setIfInBounds_toArray, List.set_cons_zero, List.set_cons_succ]
  refine held_take (i := 22) (v := ?_) rfl rfl (by kernel_rfl) (by kernel_rfl) (by kernel_rfl) (fun _ _ _ h => h) (by rfl) ?_ ?_
  rotate_left
  · intro W hW
    go_simp
    try with_reducible rfl
  simp only [Act.put, List.setIfInBounds_toArray, List.set_cons_zero, List.set_cons_succ]
  refine held_take (i := 23) (v := ?_) rfl rfl (by kernel_rfl) (by kernel_rfl) (by kernel_rfl) (fun _ _ _ h => h) (by rfl) ?_ ?_
  rotate_left
  · intro W hW
    go_simp
    try with_reducible rfl
  simp only [Act.put, List.setIfInBounds_toArray, List.set_cons_zero, List.set_cons_succ]
  refine held_take (i := 24) (v := ?_) rfl rfl (by kernel_rfl) (by kernel_rfl) (by kernel_rfl) (fun _ _ _ h => h) (by rfl) ?_ ?_
  rotate_left
  · intro W hW
    have z0 := (HFe.out.below hW HFe.out.lt).cell 0
    have y0 := (HFe.out.below hW HFe.out.lt).cell 1
    simp only [List.getElem?_cons_succ, List.getElem?_cons_zero] at z0 y0
    go_simp
    try with_reducible rfl
  simp only [Act.put, List.setIfInBounds_toArray, List.set_cons_zero, List.set_cons_succ]
  refine held_take (i := 26) (v := ?_) rfl rfl (by kernel_rfl) (by kernel_rfl) (by kernel_rfl) (fun _ _ _ h => h) (by rfl) ?_ ?_
  rotate_left
  · intro W hW
    have z0 := (HFe.out.below hW HFe.out.lt).cell 0
    have y0 := (HFe.out.below hW HFe.out.lt).cell 1
    simp only [List.getElem?_cons_succ, List.getElem?_cons_zero] at z0 y0
    go_simp
    try with_reducible rfl
  simp only [Act.put, List.setIfInBounds_toArray, List.set_cons_zero, List.set_cons_succ]
  refine held_call (i := 25) (by kernel_rfl) rfl (fun K' hK => ?_)
  rw [if_pos (by rfl)]
  go_simp
  refine (D4.out _).mono ?_
  rintro e w5 ⟨rfl, hb⟩
  refine hK.out _ _ hb ?_
  clear hK K'
  have HBf := Lib.hid (HBe.out.trans (hb.mono HBe.out.size))
  clear hb
  refine held_call (i := 27) (by kernel_rfl) rfl (fun K' hK => ?_)
  rw [if_pos (by rfl)]
  go_simp
  refine (D5.out _).mono ?_
  rintro e w6 ⟨rfl, hb⟩
  refine hK.out _ _ hb ?_
  clear hK K'
  have HBg := Lib.hid (HBf.out.trans (hb.mono HBf.out.size))
  clear hb
  refine held_take (i := 28) (v := ?_) rfl rfl (by kernel_rfl) (by kernel_rfl) (by kernel_rfl) (fun _ _ _ h => h) (by rfl) ?_ ?_
  rotate_left
  · intro W hW
    go_simp
    try with_reducible rfl
  simp only [Act.put, List.setIfInBounds_toArray, List.set_cons_zero, List.set_cons_succ]
  refine held_take (i := 29) (v := ?_) rfl rfl (by kernel_rfl) (by kernel_rfl) (by kernel_rfl) (fun _ _ _ h => h) (by rfl) ?_ ?_
  rotate_left
  · intro W hW
    go_simp
    try with_reducible rfl
  simp only [Act.put, List.setIfInBounds_toArray, List.set_cons_zero, List.set_cons_succ]
  refine held_take (i := 30) (v := ?_) rfl rfl (by kernel_rfl) (by kernel_rfl) (by kernel_rfl) (fun _ _ _ h => h) (by rfl) ?_ ?_
  rotate_left
  · intro W hW
    go_simp
    try with_reducible rfl
  simp only [Act.put, List.setIfInBounds_toArray, List.set_cons_zero, List.set_cons_succ]
  refine held_call (i := 31) (by kernel_rfl) rfl (fun K' hK => ?_)
  rw [if_pos (by rfl)]
  go_simp
  refine (awake7_any _).mono ?_
  rintro e w7 ⟨rfl, hb⟩
  refine hK.out _ _ hb ?_
  clear hK K'
  have HBh := Lib.hid (HBg.out.trans (hb.mono HBg.out.size))
  clear hb
  refine held_take (i := 32) (v := ?_) rfl rfl (by kernel_rfl) (by kernel_rfl) (by kernel_rfl) (fun _ _ _ h => h) (by rfl) ?_ ?_
  rotate_left
  · intro W hW
    go_simp
    try with_reducible rfl
  simp only [Act.put, List.setIfInBounds_toArray, List.set_cons_zero, List.set_cons_succ]
  refine held_take (i := 33) (v := ?_) rfl rfl (by kernel_rfl) (by kernel_rfl) (by kernel_rfl) (fun _ _ _ h => h) (by rfl) ?_ ?_
  rotate_left
  · intro W hW
    go_simp
    try with_reducible rfl
  simp only [Act.put, List.setIfInBounds_toArray, List.set_cons_zero, List.set_cons_succ]
  refine wpAnyH_done (by kernel_rfl) ?_ _
  go_wp2
  go_ret
  exact ⟨rfl, HBh.out⟩
theorem new_law (sz pgs x P : Int) (A : Option Addr) (n c : Nat) (w : World) :
    Calls Try.prog 3 #[.int .i64 sz, .int .i64 pgs, .int .i64 x, .agg #[.int .i64 P, .slice A n c]] w fun e w' => e = .returned (.bool true) ∧ Below w.heap.size w w' := by
  by_cases h : 5000 < n
  · exact new_long sz pgs x P A n c w h
  · by_cases g1 : sz < 512
    · exact new_lo sz pgs x P A n c w (by omega) g1
    · by_cases g2 : 8192 < sz
      · exact new_hi sz pgs x P A n c w (by omega) g1 g2
      · by_cases g3 : pgs < 1
        · exact new_few sz pgs x P A n c w (by omega) g1 g2 g3
        · by_cases g4 : 8 < pgs
          · exact new_many sz pgs x P A n c w (by omega) g1 g2 g3 g4
          · exact new_okk sz pgs x P A n c w (by omega) g1 g2 g3 g4
end Go.Proofs.Ytgoajnljgbcmdaa
