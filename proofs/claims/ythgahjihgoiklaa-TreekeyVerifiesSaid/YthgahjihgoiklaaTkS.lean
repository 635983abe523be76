/- The law TreekeyVerifies. -/
import Derived.Test.YthgahjihgoiklaaTkR
namespace Go.Proofs.Ythgahjihgoiklaa
open Go.RowKit
set_option maxRecDepth 100000

set_option maxHeartbeats 4000000 in
theorem verifies_law (s m o : BitVec 64) (z h L N : Nat) (n : Int) (hL : L ≤ 255) (hz : z % 4 = h) (hN : 2 ^ h = N) (w : World) :
    Calls Try.prog 5 #[.int .u64 (val s), .int .u8 (z : Int), .int .u8 (L : Int), .int .u64 (val m), .int .i64 n, .int .u64 (val o)] w fun e w' => e = .returned (.bool true) ∧ Below w.heap.size w w' := by
  have h4 : h ≤ 4 := by omega
  have hzI : (z : Int) % 4 = (h : Int) := by omega
  have hwr := wrap_pow h h4
  have hp := pow_le h h4
  rw [hN] at hwr hp
  have HN := Lib.hid hN
  clear hN
  have hN0 : ¬ (N : Int) = 0 := by omega
  obtain ⟨i, hi⟩ : ∃ i : Nat, L % N = i := ⟨_, rfl⟩
  have hiN : i < N := by rw [← hi]; exact Nat.mod_lt _ (by omega)
  have hiI : (L : Int) % (N : Int) = (i : Int) := by rw [← hi]; simp
  clear hi
  have hwL : wrap64 (L : Int) = (L : Int) := by unfold wrap64; omega
  have htm : (L : Int).tmod (N : Int) = (i : Int) := by rw [← hiI]; exact Int.tmod_eq_emod_of_nonneg (by omega)
  go_enter Try.func5, Try.ntmps5
  go_wp2_with fail
  refine (publicR_ok s h h4 _).mono ?_
  rintro e w1 ⟨rfl, hb1⟩
  obtain ⟨r, hr⟩ : ∃ r, treeN s h 0 = r := ⟨_, rfl⟩
  rw [hr]
  clear hr
  have HB1 := Lib.hid hb1
  have hs1 := hb1.size
  clear hb1
  go_wp2_with fail
  refine (signRT_ok s m h i h4 (by rw [HN.out]; exact hiN) _).mono ?_
  rintro e w2 ⟨A, c, B, c2, rfl, hA, hP, hb2⟩
  have hk2 := (Cs.new w1 24 [.int .i64 (h : Int), .int .u64 (val r)]).below hb2 (by simp)
  have HB2 := Lib.hid ((HB1.out.alloc hs1 (.cells #[.int .i64 (h : Int), .int .u64 (val r)] 24)).trans (hb2.mono (by simp; omega)))
  have hg := (Below.refl w2.heap.size w2).alloc (Nat.le_refl _) (.cells #[.int .i64 (i : Int), .slice A 18 c, .slice B h c2] 32)
  have HA2 := Lib.hid (hA.below hg)
  have HP2 := Lib.hid (hP.below hg)
  have HK2 := Lib.hid (hk2.grow (.cells #[.int .i64 (i : Int), .slice A 18 c, .slice B h c2] 32))
  have HS2 := Lib.hid (Cs.new w2 32 [.int .i64 (i : Int), .slice A 18 c, .slice B h c2])
  have hs2 := HB2.out.size
  have HB2' := Lib.hid (HB2.out.alloc hs2 (.cells #[.int .i64 (i : Int), .slice A 18 c, .slice B h c2] 32))
  have s0 := HS2.out.cell 0
  have s1 := HS2.out.cell 1
  have s2 := HS2.out.cell 2
  simp only [List.getElem?_cons_succ, List.getElem?_cons_zero] at s0 s1 s2
  clear hk2 hb2 hg hA hP
  go_wp2_with fail
  refine (spoil4_any (i : Int) n A B h c c2 _ _ _ HA2.out HP2.out h4).mono ?_
  rintro e w3 ⟨L', A', B', n', c', n2', c2', cs', ps', rfl, hA', hP', hn1, hn2, hb3⟩
  have HA3' := Lib.hid hA'
  have HP3' := Lib.hid hP'
  have HA3 := Lib.hid (HA2.out.below hb3)
  have HP3 := Lib.hid (HP2.out.below hb3)
  have HK3 := Lib.hid (HK2.out.below hb3 HK2.out.lt)
  have HS3 := Lib.hid (HS2.out.below hb3 HS2.out.lt)
  have HB3 := Lib.hid (HB2'.out.trans (hb3.mono HB2'.out.size))
  have k1 := (HK3.out.grow (.cells #[.int .i64 L', .slice A' n' c', .slice B' n2' c2'] 32)).cell 1
  simp only [List.getElem?_cons_succ, List.getElem?_cons_zero] at k1
  clear s0 s1 s2 hb3 hA' hP' HK2 HS2 HA2 HP2 HB2 HB2'
  go_wp2_with fail
  refine two_cs _ _ [.int .i64 L', .slice A' n' c', .slice B' n2' c2'] [.int .i64 _, .int .u64 (val r)] ?_
  intro W0 hx hj hb0
  have HX := Lib.hid hx
  have HJ := Lib.hid hj
  have HK := Lib.hid (HK3.out.below hb0 HK3.out.lt)
  have HS := Lib.hid (HS3.out.below hb0 HS3.out.lt)
  have HA := Lib.hid (HA3.out.below hb0)
  have HP := Lib.hid (HP3.out.below hb0)
  have HA' := Lib.hid (HA3'.out.below hb0)
  have HP' := Lib.hid (HP3'.out.below hb0)
  have HB := Lib.hid (HB3.out.trans (hb0.mono HB3.out.size))
  have hlk := HK.out.lt
  have hls := HS.out.lt
  have hlx := hx.lt
  have hlj := hj.lt
  have hwB := HB.out.size
  clear hx hj hb0 k1 HK3 HS3 HA3 HP3 HA3' HP3' HB3 hwr hzI hiI hwL htm
  refine wp_region_held (S := fun W => Below W0.heap.size W0 W) (by kernel_rfl) ?_
  refine heldS_take (i := 0) (v := ?_) rfl rfl (by kernel_rfl) (by kernel_rfl) (by kernel_rfl) (fun _ _ _ h => h) (by rfl) ((Below.refl _ W0).drew) ?_ ?_
  rotate_left
  · intro W hW
    have e0 := (HK.out.below hW hlk).cell 0
    have e1 := (HK.out.below hW hlk).cell 1
    simp only [List.getElem?_cons_succ, List.getElem?_cons_zero] at e0 e1
    go_simp
    try with_reducible rfl
  simp only [Act.put, List.setIfInBounds_toArray, List.set_cons_zero, List.set_cons_succ]
  refine heldS_take (i := 1) (v := ?_) rfl rfl (by kernel_rfl) (by kernel_rfl) (by kernel_rfl) (fun _ _ _ h => h) (by rfl) ((Below.refl _ W0).drew) ?_ ?_
  rotate_left
  · intro W hW
    go_simp
    try with_reducible rfl
  simp only [Act.put, List.setIfInBounds_toArray, List.set_cons_zero, List.set_cons_succ]
  refine heldS_take (i := 2) (v := ?_) rfl rfl (by kernel_rfl) (by kernel_rfl) (by kernel_rfl) (fun _ _ _ h => h) (by rfl) ((Below.refl _ W0).drew) ?_ ?_
  rotate_left
  · intro W hW
    have e0 := (HX.out.below hW hlx).cell 0
    have e1 := (HX.out.below hW hlx).cell 1
    have e2 := (HX.out.below hW hlx).cell 2
    simp only [List.getElem?_cons_succ, List.getElem?_cons_zero] at e0 e1 e2
    go_simp
    try with_reducible rfl
  simp only [Act.put, List.setIfInBounds_toArray, List.set_cons_zero, List.set_cons_succ]
  refine heldS_take (i := 4) (v := ?_) rfl rfl (by kernel_rfl) (by kernel_rfl) (by kernel_rfl) (fun _ _ _ h => h) (by rfl) ((Below.refl _ W0).drew) ?_ ?_
  rotate_left
  · intro W hW
    have e0 := (HK.out.below hW hlk).cell 0
    have e1 := (HK.out.below hW hlk).cell 1
    simp only [List.getElem?_cons_succ, List.getElem?_cons_zero] at e0 e1
    go_simp
    try with_reducible rfl
  simp only [Act.put, List.setIfInBounds_toArray, List.set_cons_zero, List.set_cons_succ]
  refine heldS_take (i := 5) (v := ?_) rfl rfl (by kernel_rfl) (by kernel_rfl) (by kernel_rfl) (fun _ _ _ h => h) (by rfl) ((Below.refl _ W0).drew) ?_ ?_
  rotate_left
  · intro W hW
    go_simp
    try with_reducible rfl
  simp only [Act.put, List.setIfInBounds_toArray, List.set_cons_zero, List.set_cons_succ]
  refine heldS_take (i := 6) (v := ?_) rfl rfl (by kernel_rfl) (by kernel_rfl) (by kernel_rfl) (fun _ _ _ h => h) (by rfl) ((Below.refl _ W0).drew) ?_ ?_
  rotate_left
  · intro W hW
    have e0 := (HX.out.below hW hlx).cell 0
    have e1 := (HX.out.below hW hlx).cell 1
    have e2 := (HX.out.below hW hlx).cell 2
    simp only [List.getElem?_cons_succ, List.getElem?_cons_zero] at e0 e1 e2
    go_simp
    try with_reducible rfl
  simp only [Act.put, List.setIfInBounds_toArray, List.set_cons_zero, List.set_cons_succ]
  refine heldS_call (i := 3) (by kernel_rfl) rfl (fun K' hK => ?_)
  go_simp
  refine (verify_any _ r m L' A' B' n' c' n2' c2' cs' ps' _ (HA'.out.below (Below.refl _ W0).drew) (HP'.out.below (Below.refl _ W0).drew)).mono ?_
  rintro e w4 ⟨rfl, hb⟩
  have hS : Below W0.heap.size W0 w4 := ((Below.refl _ W0).drew).trans (hb)
  refine hK.out _ _ hS ?_
  clear hK K'
  have HR4 := Lib.hid hS
  have hq4 := hS.size
  clear hb hS
  refine heldS_call (i := 7) (by kernel_rfl) rfl (fun K' hK => ?_)
  go_simp
  refine (verifyR_any _ r m L' A' B' n' c' n2' c2' cs' ps' _ (HA'.out.below HR4.out) (HP'.out.below HR4.out)).mono ?_
  rintro e w5 ⟨rfl, hb⟩
  have hS : Below W0.heap.size W0 w5 := HR4.out.trans (hb.mono hq4)
  refine hK.out _ _ hS ?_
  clear hK K'
  have HR5 := Lib.hid hS
  have hq5 := hS.size
  clear hb hS
  generalize verE (h : Int) r m L' cs' ps' = q at *
  refine heldS_take (i := 8) (v := ?_) rfl rfl (by kernel_rfl) (by kernel_rfl) (by kernel_rfl) (fun _ _ _ h => h) (by rfl) HR5.out ?_ ?_
  rotate_left
  · intro W hW
    go_simp
    try with_reducible rfl
  simp only [Act.put, List.setIfInBounds_toArray, List.set_cons_zero, List.set_cons_succ]
  refine heldS_take (i := 9) (v := ?_) rfl rfl (by kernel_rfl) (by kernel_rfl) (by kernel_rfl) (fun _ _ _ h => h) (by rfl) HR5.out ?_ ?_
  rotate_left
  · intro W hW
    go_simp
    try with_reducible rfl
  simp only [Act.put, List.setIfInBounds_toArray, List.set_cons_zero, List.set_cons_succ]
  refine heldS_take (i := 10) (v := ?_) rfl rfl (by kernel_rfl) (by kernel_rfl) (by kernel_rfl) (fun _ _ _ h => h) (by rfl) HR5.out ?_ ?_
  rotate_left
  · intro W hW
    have e0 := (HK.out.below hW hlk).cell 0
    have e1 := (HK.out.below hW hlk).cell 1
    simp only [List.getElem?_cons_succ, List.getElem?_cons_zero] at e0 e1
    go_simp
    try with_reducible rfl
  simp only [Act.put, List.setIfInBounds_toArray, List.set_cons_zero, List.set_cons_succ]
  refine heldS_take (i := 11) (v := ?_) rfl rfl (by kernel_rfl) (by kernel_rfl) (by kernel_rfl) (fun _ _ _ h => h) (by rfl) HR5.out ?_ ?_
  rotate_left
  · intro W hW
    go_simp
    try with_reducible rfl
  simp only [Act.put, List.setIfInBounds_toArray, List.set_cons_zero, List.set_cons_succ]
  refine heldS_take (i := 12) (v := ?_) rfl rfl (by kernel_rfl) (by kernel_rfl) (by kernel_rfl) (fun _ _ _ h => h) (by rfl) HR5.out ?_ ?_
  rotate_left
  · intro W hW
    have e0 := (HS.out.below hW hls).cell 0
    have e1 := (HS.out.below hW hls).cell 1
    have e2 := (HS.out.below hW hls).cell 2
    simp only [List.getElem?_cons_succ, List.getElem?_cons_zero] at e0 e1 e2
    go_simp
    try with_reducible rfl
  simp only [Act.put, List.setIfInBounds_toArray, List.set_cons_zero, List.set_cons_succ]
  refine heldS_take (i := 14) (v := ?_) rfl rfl (by kernel_rfl) (by kernel_rfl) (by kernel_rfl) (fun _ _ _ h => h) (by rfl) HR5.out ?_ ?_
  rotate_left
  · intro W hW
    have e0 := (HK.out.below hW hlk).cell 0
    have e1 := (HK.out.below hW hlk).cell 1
    simp only [List.getElem?_cons_succ, List.getElem?_cons_zero] at e0 e1
    go_simp
    try with_reducible rfl
  simp only [Act.put, List.setIfInBounds_toArray, List.set_cons_zero, List.set_cons_succ]
  refine heldS_take (i := 15) (v := ?_) rfl rfl (by kernel_rfl) (by kernel_rfl) (by kernel_rfl) (fun _ _ _ h => h) (by rfl) HR5.out ?_ ?_
  rotate_left
  · intro W hW
    go_simp
    try with_reducible rfl
  simp only [Act.put, List.setIfInBounds_toArray, List.set_cons_zero, List.set_cons_succ]
  refine heldS_take (i := 16) (v := ?_) rfl rfl (by kernel_rfl) (by kernel_rfl) (by kernel_rfl) (fun _ _ _ h => h) (by rfl) HR5.out ?_ ?_
  rotate_left
  · intro W hW
    have e0 := (HS.out.below hW hls).cell 0
    have e1 := (HS.out.below hW hls).cell 1
    have e2 := (HS.out.below hW hls).cell 2
    simp only [List.getElem?_cons_succ, List.getElem?_cons_zero] at e0 e1 e2
    go_simp
    try with_reducible rfl
  simp only [Act.put, List.setIfInBounds_toArray, List.set_cons_zero, List.set_cons_succ]
  refine heldS_call (i := 13) (by kernel_rfl) rfl (fun K' hK => ?_)
  go_simp
  refine (verify_any _ r o (i : Int) A B 18 c h c2 _ _ _ (HA.out.below HR5.out) (HP.out.below HR5.out)).mono ?_
  rintro e w6 ⟨rfl, hb⟩
  have hS : Below W0.heap.size W0 w6 := HR5.out.trans (hb.mono hq5)
  refine hK.out _ _ hS ?_
  clear hK K'
  have HR6 := Lib.hid hS
  have hq6 := hS.size
  clear hb hS
  refine heldS_call (i := 17) (by kernel_rfl) rfl (fun K' hK => ?_)
  go_simp
  refine (verifyR_any _ r o (i : Int) A B 18 c h c2 _ _ _ (HA.out.below HR6.out) (HP.out.below HR6.out)).mono ?_
  rintro e w7 ⟨rfl, hb⟩
  have hS : Below W0.heap.size W0 w7 := HR6.out.trans (hb.mono hq6)
  refine hK.out _ _ hS ?_
  clear hK K'
  have HR7 := Lib.hid hS
  have hq7 := hS.size
  clear hb hS
  generalize verE (h : Int) r o (i : Int) _ _ = q2 at *
  refine heldS_take (i := 18) (v := ?_) rfl rfl (by kernel_rfl) (by kernel_rfl) (by kernel_rfl) (fun _ _ _ h => h) (by rfl) HR7.out ?_ ?_
  rotate_left
  · intro W hW
    go_simp
    try with_reducible rfl
  simp only [Act.put, List.setIfInBounds_toArray, List.set_cons_zero, List.set_cons_succ]
  refine heldS_take (i := 19) (v := ?_) rfl rfl (by kernel_rfl) (by kernel_rfl) (by kernel_rfl) (fun _ _ _ h => h) (by rfl) HR7.out ?_ ?_
  rotate_left
  · intro W hW
    go_simp
    try with_reducible rfl
  simp only [Act.put, List.setIfInBounds_toArray, List.set_cons_zero, List.set_cons_succ]
  refine heldS_take (i := 20) (v := ?_) rfl rfl (by kernel_rfl) (by kernel_rfl) (by kernel_rfl) (fun _ _ _ h => h) (by rfl) HR7.out ?_ ?_
  rotate_left
  · intro W hW
    go_simp
    try with_reducible rfl
  simp only [Act.put, List.setIfInBounds_toArray, List.set_cons_zero, List.set_cons_succ]
  refine heldS_take (i := 21) (v := ?_) rfl rfl (by kernel_rfl) (by kernel_rfl) (by kernel_rfl) (fun _ _ _ h => h) (by rfl) HR7.out ?_ ?_
  rotate_left
  · intro W hW
    have e0 := (HJ.out.below hW hlj).cell 0
    have e1 := (HJ.out.below hW hlj).cell 1
    simp only [List.getElem?_cons_succ, List.getElem?_cons_zero] at e0 e1
    go_simp
    try with_reducible rfl
  simp only [Act.put, List.setIfInBounds_toArray, List.set_cons_zero, List.set_cons_succ]
  refine heldS_take (i := 22) (v := ?_) rfl rfl (by kernel_rfl) (by kernel_rfl) (by kernel_rfl) (fun _ _ _ h => h) (by rfl) HR7.out ?_ ?_
  rotate_left
  · intro W hW
    go_simp
    try with_reducible rfl
  simp only [Act.put, List.setIfInBounds_toArray, List.set_cons_zero, List.set_cons_succ]
  refine heldS_take (i := 23) (v := ?_) rfl rfl (by kernel_rfl) (by kernel_rfl) (by kernel_rfl) (fun _ _ _ h => h) (by rfl) HR7.out ?_ ?_
  rotate_left
  · intro W hW
    have e0 := (HS.out.below hW hls).cell 0
    have e1 := (HS.out.below hW hls).cell 1
    have e2 := (HS.out.below hW hls).cell 2
    simp only [List.getElem?_cons_succ, List.getElem?_cons_zero] at e0 e1 e2
    go_simp
    try with_reducible rfl
  simp only [Act.put, List.setIfInBounds_toArray, List.set_cons_zero, List.set_cons_succ]
  refine heldS_take (i := 25) (v := ?_) rfl rfl (by kernel_rfl) (by kernel_rfl) (by kernel_rfl) (fun _ _ _ h => h) (by rfl) HR7.out ?_ ?_
  rotate_left
  · intro W hW
    have e0 := (HJ.out.below hW hlj).cell 0
    have e1 := (HJ.out.below hW hlj).cell 1
    simp only [List.getElem?_cons_succ, List.getElem?_cons_zero] at e0 e1
    go_simp
    try with_reducible rfl
  simp only [Act.put, List.setIfInBounds_toArray, List.set_cons_zero, List.set_cons_succ]
  refine heldS_take (i := 26) (v := ?_) rfl rfl (by kernel_rfl) (by kernel_rfl) (by kernel_rfl) (fun _ _ _ h => h) (by rfl) HR7.out ?_ ?_
  rotate_left
  · intro W hW
    go_simp
    try with_reducible rfl
  simp only [Act.put, List.setIfInBounds_toArray, List.set_cons_zero, List.set_cons_succ]
  refine heldS_take (i := 27) (v := ?_) rfl rfl (by kernel_rfl) (by kernel_rfl) (by kernel_rfl) (fun _ _ _ h => h) (by rfl) HR7.out ?_ ?_
  rotate_left
  · intro W hW
    have e0 := (HS.out.below hW hls).cell 0
    have e1 := (HS.out.below hW hls).cell 1
    have e2 := (HS.out.below hW hls).cell 2
    simp only [List.getElem?_cons_succ, List.getElem?_cons_zero] at e0 e1 e2
    go_simp
    try with_reducible rfl
  simp only [Act.put, List.setIfInBounds_toArray, List.set_cons_zero, List.set_cons_succ]
  refine heldS_call (i := 24) (by kernel_rfl) rfl (fun K' hK => ?_)
  go_simp
  refine (verify_any _ r m (i : Int) A B 18 c h c2 _ _ _ (HA.out.below HR7.out) (HP.out.below HR7.out)).mono ?_
  rintro e w8 ⟨rfl, hb⟩
  have hS : Below W0.heap.size W0 w8 := HR7.out.trans (hb.mono hq7)
  refine hK.out _ _ hS ?_
  clear hK K'
  have HR8 := Lib.hid hS
  have hq8 := hS.size
  clear hb hS
  refine heldS_call (i := 28) (by kernel_rfl) rfl (fun K' hK => ?_)
  go_simp
  refine (verifyR_any _ r m (i : Int) A B 18 c h c2 _ _ _ (HA.out.below HR8.out) (HP.out.below HR8.out)).mono ?_
  rintro e w9 ⟨rfl, hb⟩
  have hS : Below W0.heap.size W0 w9 := HR8.out.trans (hb.mono hq8)
  refine hK.out _ _ hS ?_
  clear hK K'
  have HR9 := Lib.hid hS
  have hq9 := hS.size
  clear hb hS
  generalize verE _ r m (i : Int) _ _ = q3 at *
  refine heldS_take (i := 29) (v := ?_) rfl rfl (by kernel_rfl) (by kernel_rfl) (by kernel_rfl) (fun _ _ _ h => h) (by rfl) HR9.out ?_ ?_
  rotate_left
  · intro W hW
    go_simp
    try with_reducible rfl
  simp only [Act.put, List.setIfInBounds_toArray, List.set_cons_zero, List.set_cons_succ]
  refine heldS_take (i := 30) (v := ?_) rfl rfl (by kernel_rfl) (by kernel_rfl) (by kernel_rfl) (fun _ _ _ h => h) (by rfl) HR9.out ?_ ?_
  rotate_left
  · intro W hW
    go_simp
    try with_reducible rfl
  simp only [Act.put, List.setIfInBounds_toArray, List.set_cons_zero, List.set_cons_succ]
  refine heldS_take (i := 31) (v := ?_) rfl rfl (by kernel_rfl) (by kernel_rfl) (by kernel_rfl) (fun _ _ _ h => h) (by rfl) HR9.out ?_ ?_
  rotate_left
  · intro W hW
    go_simp
    try with_reducible rfl
  simp only [Act.put, List.setIfInBounds_toArray, List.set_cons_zero, List.set_cons_succ]
  refine heldS_call (i := 32) (by kernel_rfl) rfl (fun K' hK => ?_)
  go_simp
  refine (awake4_any _).mono ?_
  rintro e w10 ⟨rfl, hb⟩
  have hS : Below W0.heap.size W0 w10 := HR9.out.trans (hb.mono hq9)
  refine hK.out _ _ hS ?_
  clear hK K'
  have HR10 := Lib.hid hS
  have hq10 := hS.size
  clear hb hS
  refine heldS_take (i := 33) (v := ?_) rfl rfl (by kernel_rfl) (by kernel_rfl) (by kernel_rfl) (fun _ _ _ h => h) (by rfl) HR10.out ?_ ?_
  rotate_left
  · intro W hW
    go_simp
    try with_reducible rfl
  simp only [Act.put, List.setIfInBounds_toArray, List.set_cons_zero, List.set_cons_succ]
  refine heldS_call (i := 34) (by kernel_rfl) rfl (fun K' hK => ?_)
  go_simp
  refine hK.out _ _ (HR10.out) ?_
  clear hK K'
  refine wpAnyH_done (by kernel_rfl) ?_ _
  go_wp2
  go_ret
  exact ⟨rfl, HB.out.trans (HR10.out.mono hwB)⟩
theorem verifies_law_at (x y z t : Int) (hx : 0 ≤ x ∧ x ≤ 18446744073709551615) (hy : 0 ≤ y ∧ y ≤ 255) (hz : 0 ≤ z ∧ z ≤ 255) (ht : 0 ≤ t ∧ t ≤ 18446744073709551615) (n u : Int) (hu : 0 ≤ u ∧ u ≤ 18446744073709551615) (w : World) :
    Calls Try.prog 5 #[.int .u64 x, .int .u8 y, .int .u8 z, .int .u64 t, .int .i64 n, .int .u64 u] w fun e w' => e = .returned (.bool true) ∧ Below w.heap.size w w' := by
  rw [val_of hx.1 hx.2, val_of ht.1 ht.2, val_of hu.1 hu.2]
  obtain ⟨Y, rfl⟩ := Int.eq_ofNat_of_zero_le hy.1
  obtain ⟨Z, rfl⟩ := Int.eq_ofNat_of_zero_le hz.1
  exact verifies_law _ _ _ Y _ Z _ n (by omega) rfl rfl w
end Go.Proofs.Ythgahjihgoiklaa
