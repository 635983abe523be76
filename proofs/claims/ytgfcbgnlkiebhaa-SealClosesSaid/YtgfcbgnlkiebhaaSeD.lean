/- Open of the reference. -/
import Derived.Test.YtgfcbgnlkiebhaaSeC
import Derived.Test.YtgfcbgnlkiebhaaWd
namespace Go.Proofs.Ytgfcbgnlkiebhaa
open Go.RowKit
set_option maxRecDepth 100000

theorem openR_trunc (x : BitVec 64) (A B : Option Addr) (n c m d : Nat) (w : World) (hm : m < 16) :
    Calls Try.prog 18 #[.int .u64 (val x), .slice A n c, .slice B m d] w fun e w' => e = .returned (.tuple #[.slice none 0 0, .int .i64 1]) ∧ w = w' := by
  have h1 : (m : Int) < 16 := by omega
  go_enter Try.func18, Try.ntmps18
  go_wp2
  go_ret2
  exact ⟨rfl, rfl⟩
theorem openR_big (x : BitVec 64) (A B : Option Addr) (n c m d : Nat) (w : World) (hm : 16 ≤ m) (h : 1040 < m ∨ 1024 < n) :
    Calls Try.prog 18 #[.int .u64 (val x), .slice A n c, .slice B m d] w fun e w' => e = .returned (.tuple #[.slice none 0 0, .int .i64 8]) ∧ w = w' := by
  have h1 : ¬ (m : Int) < 16 := by omega
  by_cases h2 : 1040 < m
  · have h3 : (1040 : Int) < (m : Int) := by omega
    go_enter Try.func18, Try.ntmps18
    go_wp2
    go_ret2
    exact ⟨rfl, rfl⟩
  · have h3 : ¬ (1040 : Int) < (m : Int) := by omega
    have h4 : (1024 : Int) < (n : Int) := by omega
    go_enter Try.func18, Try.ntmps18
    go_wp2
    go_ret2
    exact ⟨rfl, rfl⟩
/-- the parts of a box -/
def nonW (zs : List Int) : BitVec 64 := rdG (zs.take 8) 8
def hidL (zs : List Int) : List Int := (zs.drop 8).take (zs.length - 16)
def tagL (zs : List Int) : BitVec 64 := rdG (zs.drop (zs.length - 8)) 8
set_option maxHeartbeats 2000000 in
theorem openR_tag (x : BitVec 64) (A : Option Addr) (a : Addr) (n c M d : Nat) (bs zs : List Int) (w : World) (hA : Bytes w A n bs) (hB : Bytes w (some a) (M + 16) zs) (hM : M ≤ 1024) (hn : n ≤ 1024) (hd : M + 16 ≤ d) (ht : tagL zs ≠ tagW x (nonW zs) bs (hidL zs)) :
    Calls Try.prog 18 #[.int .u64 (val x), .slice A n c, .slice (some a) (M + 16) d] w fun e w' => e = .returned (.tuple #[.slice none 0 0, .int .i64 14]) ∧ Below w.heap.size w w' := by
  have h1 : ¬ ((M : Int) + 16) < 16 := by omega
  have h2 : ¬ (1040 : Int) < (M : Int) + 16 := by omega
  have h3 : ¬ (1024 : Int) < (n : Int) := by omega
  have hw1 : IntKind.i64.wrap ((M : Int) + 16 - 8) = (M : Int) + 8 := by rw [IntKind.wrap_i64]; omega
  have hw2 : wrap64 ((M : Int) + 16 - 8) = (M : Int) + 8 := by unfold wrap64; omega
  have hd8 : ¬ d = 8 := by omega
  have hd9 : ¬ d - 8 = 0 := by omega
  have hdI : (8 : Int) ≤ (d : Int) := by omega
  have hdJ : (M : Int) + 8 ≤ (d : Int) := by omega
  have hdK : (8 : Int) ≤ (M : Int) + 8 := by omega
  have hdN : M + 8 ≤ d := by omega
  have htn : ((M : Int) + 8).toNat = M + 8 := by omega
  have hdO : ¬ d = M + 8 := by omega
  have hdP : ¬ d - (M + 8) = 0 := by omega
  have hdQ : ¬ d ≤ M + 8 := by omega
  have hdR : (M : Int) + 8 ≤ (M : Int) + 16 := by omega
  have hl := hB.len
  have HA := Lib.hid hA
  have HB := Lib.hid hB
  clear hA hB
  go_enter Try.func18, Try.ntmps18
  go_wp2_with fail
  refine wp_region_held (S := fun W' => Below w.heap.size w W') (by kernel_rfl) ?_
  refine hs_take (i := 0) (v := ?_) rfl rfl (by kernel_rfl) (by kernel_rfl) (by kernel_rfl) (fun _ _ _ h => h) (by rfl) (Below.refl _ w).drew ?_ ?_
  rotate_left
  · intro W' hW'
    go_simp
    try with_reducible rfl
  simp only [Act.put, List.setIfInBounds_toArray, List.set_cons_zero, List.set_cons_succ]
  refine hs_take (i := 1) (v := ?_) rfl rfl (by kernel_rfl) (by kernel_rfl) (by kernel_rfl) (fun _ _ _ h => h) (by rfl) (Below.refl _ w).drew ?_ ?_
  rotate_left
  · intro W' hW'
    go_simp
    try with_reducible rfl
  simp only [Act.put, List.setIfInBounds_toArray, List.set_cons_zero, List.set_cons_succ]
  refine hs_take (i := 3) (v := ?_) rfl rfl (by kernel_rfl) (by kernel_rfl) (by kernel_rfl) (fun _ _ _ h => h) (by rfl) (Below.refl _ w).drew ?_ ?_
  rotate_left
  · intro W' hW'
    go_simp
    try with_reducible rfl
  simp only [Act.put, List.setIfInBounds_toArray, List.set_cons_zero, List.set_cons_succ]
  refine hs_take (i := 4) (v := ?_) rfl rfl (by kernel_rfl) (by kernel_rfl) (by kernel_rfl) (fun _ _ _ h => h) (by rfl) (Below.refl _ w).drew ?_ ?_
  rotate_left
  · intro W' hW'
    go_simp
    try with_reducible rfl
  simp only [Act.put, List.setIfInBounds_toArray, List.set_cons_zero, List.set_cons_succ]
  refine hs_take (i := 5) (v := ?_) rfl rfl (by kernel_rfl) (by kernel_rfl) (by kernel_rfl) (fun _ _ _ h => h) (by rfl) (Below.refl _ w).drew ?_ ?_
  rotate_left
  · intro W' hW'
    go_simp
    try with_reducible rfl
  simp only [Act.put, List.setIfInBounds_toArray, List.set_cons_zero, List.set_cons_succ]
  refine hs_take (i := 6) (v := ?_) rfl rfl (by kernel_rfl) (by kernel_rfl) (by kernel_rfl) (fun _ _ _ h => h) (by rfl) (Below.refl _ w).drew ?_ ?_
  rotate_left
  · intro W' hW'
    go_simp
    try with_reducible rfl
  simp only [Act.put, List.setIfInBounds_toArray, List.set_cons_zero, List.set_cons_succ]
  refine hs_take (i := 7) (v := ?_) rfl rfl (by kernel_rfl) (by kernel_rfl) (by kernel_rfl) (fun _ _ _ h => h) (by rfl) (Below.refl _ w).drew ?_ ?_
  rotate_left
  · intro W' hW'
    go_simp
    try with_reducible rfl
  simp only [Act.put, List.setIfInBounds_toArray, List.set_cons_zero, List.set_cons_succ]
  refine hs_call (i := 2) (by kernel_rfl) rfl (fun K' hK => ?_)
  go_simp
  obtain ⟨y, hy⟩ : ∃ y, nonW zs = y := ⟨_, rfl⟩
  have HN : Hid (rdG (zs.take 8) 8 = y) := Lib.hid hy
  refine (wordG_any _ 8 _ (zs.take 8) _ ((HB.out.take 8 (by omega)).below (Below.refl _ w).drew) rfl).mono ?_
  rintro e w' ⟨rfl, rfl⟩
  rw [HN.out]
  refine hK.out _ _ (Below.refl _ w).drew ?_
  clear hK K'
  refine hs_take (i := 8) (v := ?_) rfl rfl (by kernel_rfl) (by kernel_rfl) (by kernel_rfl) (fun _ _ _ h => h) (by rfl) (Below.refl _ w).drew ?_ ?_
  rotate_left
  · intro W' hW'
    go_simp
    try with_reducible rfl
  simp only [Act.put, List.setIfInBounds_toArray, List.set_cons_zero, List.set_cons_succ]
  refine hs_take (i := 9) (v := ?_) rfl rfl (by kernel_rfl) (by kernel_rfl) (by kernel_rfl) (fun _ _ _ h => h) (by rfl) (Below.refl _ w).drew ?_ ?_
  rotate_left
  · intro W' hW'
    go_simp
    try with_reducible rfl
  simp only [Act.put, List.setIfInBounds_toArray, List.set_cons_zero, List.set_cons_succ]
  refine wpAnyH_done (by kernel_rfl) ?_ _
  obtain ⟨W1, hW1⟩ : ∃ W1, w.drew = W1 := ⟨_, rfl⟩
  have hb1 : Below w.heap.size w W1 := by rw [← hW1]; exact (Below.refl _ w).drew
  have hse : W1.heap.size = w.heap.size := by rw [← hW1]; rfl
  rw [hW1]
  clear hW1
  have HB1 := Lib.hid hb1
  have HBx := Lib.hid (HB.out.below hb1)
  have HAx := Lib.hid (HA.out.below hb1)
  clear hb1
  have hB8 : Bytes W1 (some ⟨a.block, a.off + (M + 7 + 1), none⟩) 8 (zs.drop (M + 8)) := by
    have h := HBx.out.drop (cap := d) (M + 8) (by omega) (by omega)
    rw [if_neg (by omega)] at h
    have e : a.add (M + 8) = ⟨a.block, a.off + (M + 7 + 1), none⟩ := by unfold Addr.add; rw [if_neg (by omega)]
    have h2 : Bytes W1 (some (a.add (M + 8))) (M + 16 - (M + 8)) (zs.drop (M + 8)) := h
    rw [e, show M + 16 - (M + 8) = 8 by omega] at h2
    exact h2
  have hBh : Bytes W1 (some ⟨a.block, a.off + 8, none⟩) M (hidL zs) := by
    have h := HBx.out.drop (cap := d) 8 (by omega) (by omega)
    rw [if_neg (by omega)] at h
    have e : a.add 8 = ⟨a.block, a.off + 8, none⟩ := by unfold Addr.add; rw [if_neg (by omega)]
    have h2 : Bytes W1 (some (a.add 8)) (M + 16 - 8) (zs.drop 8) := h
    rw [e] at h2
    have h3 := h2.take M (by omega)
    unfold hidL
    rw [hl, show M + 16 - 16 = M by omega]
    exact h3
  obtain ⟨T1, hT1⟩ : ∃ T1, tagL zs = T1 := ⟨_, rfl⟩
  obtain ⟨hs, hhs⟩ : ∃ hs, hidL zs = hs := ⟨_, rfl⟩
  obtain ⟨T2, hT2⟩ : ∃ T2, tagW x y bs hs = T2 := ⟨_, rfl⟩
  have HT1 : Hid (rdG (zs.drop (M + 8)) 8 = T1) := Lib.hid (by rw [← hT1]; unfold tagL; rw [hl, show M + 16 - 8 = M + 8 by omega])
  rw [hT1, hy, hhs, hT2] at ht
  rw [hhs] at hBh
  have hne : ¬ val T1 = val T2 := fun e => ht (val_inj e)
  have hne2 : (val T1 == val T2) = false := by simp [hne]
  have HT2 := Lib.hid hT2
  have HB8 := Lib.hid hB8
  have HBh := Lib.hid hBh
  clear hB8 hBh hT1 hT2 hl hdO hdP hdQ ht hhs hy
  go_wp2_with fail
  refine (wordG_any _ 8 _ (zs.drop (M + 8)) _ HB8.out rfl).mono ?_
  rintro e w' ⟨rfl, rfl⟩
  rw [HT1.out]
  go_wp2_with fail
  refine (tagR_any x y A _ n c M _ bs hs _ HAx.out HBh.out (by omega) (by omega)).mono ?_
  rintro e w2 ⟨rfl, hb2⟩
  rw [HT2.out]
  have HG2 := Lib.hid hb2
  have HB2 := Lib.hid (HB1.out.trans (hb2.mono HB1.out.size))
  clear hb2
  go_wp2
  go_ret2
  exact ⟨rfl, HB2.out⟩
/-- what is opened -/
def openL (x : BitVec 64) (zs : List Int) : List Int := mixL (hidL zs) (strN x (nonW zs) (zs.length - 16)) (zs.length - 16)
set_option maxHeartbeats 2000000 in
theorem openR_ok (x : BitVec 64) (A : Option Addr) (a : Addr) (n c M d : Nat) (bs zs : List Int) (w : World) (hA : Bytes w A n bs) (hB : Bytes w (some a) (M + 16) zs) (hM : M ≤ 1024) (hn : n ≤ 1024) (hd : M + 16 ≤ d) (ht : tagL zs = tagW x (nonW zs) bs (hidL zs)) :
    Calls Try.prog 18 #[.int .u64 (val x), .slice A n c, .slice (some a) (M + 16) d] w fun e w' => ∃ v, e = .returned (.tuple #[v, .int .i64 0]) ∧ Row w' w.heap.size v M (openL x zs) ∧ Below w.heap.size w w' := by
  have h1 : ¬ ((M : Int) + 16) < 16 := by omega
  have h2 : ¬ (1040 : Int) < (M : Int) + 16 := by omega
  have h3 : ¬ (1024 : Int) < (n : Int) := by omega
  have hw1 : IntKind.i64.wrap ((M : Int) + 16 - 8) = (M : Int) + 8 := by rw [IntKind.wrap_i64]; omega
  have hw2 : wrap64 ((M : Int) + 16 - 8) = (M : Int) + 8 := by unfold wrap64; omega
  have hd8 : ¬ d = 8 := by omega
  have hd9 : ¬ d - 8 = 0 := by omega
  have hdI : (8 : Int) ≤ (d : Int) := by omega
  have hdJ : (M : Int) + 8 ≤ (d : Int) := by omega
  have hdK : (8 : Int) ≤ (M : Int) + 8 := by omega
  have hdN : M + 8 ≤ d := by omega
  have htn : ((M : Int) + 8).toNat = M + 8 := by omega
  have hdO : ¬ d = M + 8 := by omega
  have hdP : ¬ d - (M + 8) = 0 := by omega
  have hdQ : ¬ d ≤ M + 8 := by omega
  have hdR : (M : Int) + 8 ≤ (M : Int) + 16 := by omega
  have hl := hB.len
  have HA := Lib.hid hA
  have HB := Lib.hid hB
  clear hA hB
  go_enter Try.func18, Try.ntmps18
  go_wp2_with fail
  refine wp_region_held (S := fun W' => Below w.heap.size w W') (by kernel_rfl) ?_
  refine hs_take (i := 0) (v := ?_) rfl rfl (by kernel_rfl) (by kernel_rfl) (by kernel_rfl) (fun _ _ _ h => h) (by rfl) (Below.refl _ w).drew ?_ ?_
  rotate_left
  · intro W' hW'
    go_simp
    try with_reducible rfl
  simp only [Act.put, List.setIfInBounds_toArray, List.set_cons_zero, List.set_cons_succ]
  refine hs_take (i := 1) (v := ?_) rfl rfl (by kernel_rfl) (by kernel_rfl) (by kernel_rfl) (fun _ _ _ h => h) (by rfl) (Below.refl _ w).drew ?_ ?_
  rotate_left
  · intro W' hW'
    go_simp
    try with_reducible rfl
  simp only [Act.put, List.setIfInBounds_toArray, List.set_cons_zero, List.set_cons_succ]
  refine hs_take (i := 3) (v := ?_) rfl rfl (by kernel_rfl) (by kernel_rfl) (by kernel_rfl) (fun _ _ _ h => h) (by rfl) (Below.refl _ w).drew ?_ ?_
  rotate_left
  · intro W' hW'
    go_simp
    try with_reducible rfl
  simp only [Act.put, List.setIfInBounds_toArray, List.set_cons_zero, List.set_cons_succ]
  refine hs_take (i := 4) (v := ?_) rfl rfl (by kernel_rfl) (by kernel_rfl) (by kernel_rfl) (fun _ _ _ h => h) (by rfl) (Below.refl _ w).drew ?_ ?_
  rotate_left
  · intro W' hW'
    go_simp
    try with_reducible rfl
  simp only [Act.put, List.setIfInBounds_toArray, List.set_cons_zero, List.set_cons_succ]
  refine hs_take (i := 5) (v := ?_) rfl rfl (by kernel_rfl) (by kernel_rfl) (by kernel_rfl) (fun _ _ _ h => h) (by rfl) (Below.refl _ w).drew ?_ ?_
  rotate_left
  · intro W' hW'
    go_simp
    try with_reducible rfl
  simp only [Act.put, List.setIfInBounds_toArray, List.set_cons_zero, List.set_cons_succ]
  refine hs_take (i := 6) (v := ?_) rfl rfl (by kernel_rfl) (by kernel_rfl) (by kernel_rfl) (fun _ _ _ h => h) (by rfl) (Below.refl _ w).drew ?_ ?_
  rotate_left
  · intro W' hW'
    go_simp
    try with_reducible rfl
  simp only [Act.put, List.setIfInBounds_toArray, List.set_cons_zero, List.set_cons_succ]
  refine hs_take (i := 7) (v := ?_) rfl rfl (by kernel_rfl) (by kernel_rfl) (by kernel_rfl) (fun _ _ _ h => h) (by rfl) (Below.refl _ w).drew ?_ ?_
  rotate_left
  · intro W' hW'
    go_simp
    try with_reducible rfl
  simp only [Act.put, List.setIfInBounds_toArray, List.set_cons_zero, List.set_cons_succ]
  refine hs_call (i := 2) (by kernel_rfl) rfl (fun K' hK => ?_)
  go_simp
  obtain ⟨y, hy⟩ : ∃ y, nonW zs = y := ⟨_, rfl⟩
  have HN : Hid (rdG (zs.take 8) 8 = y) := Lib.hid hy
  refine (wordG_any _ 8 _ (zs.take 8) _ ((HB.out.take 8 (by omega)).below (Below.refl _ w).drew) rfl).mono ?_
  rintro e w' ⟨rfl, rfl⟩
  rw [HN.out]
  refine hK.out _ _ (Below.refl _ w).drew ?_
  clear hK K'
  refine hs_take (i := 8) (v := ?_) rfl rfl (by kernel_rfl) (by kernel_rfl) (by kernel_rfl) (fun _ _ _ h => h) (by rfl) (Below.refl _ w).drew ?_ ?_
  rotate_left
  · intro W' hW'
    go_simp
    try with_reducible rfl
  simp only [Act.put, List.setIfInBounds_toArray, List.set_cons_zero, List.set_cons_succ]
  refine hs_take (i := 9) (v := ?_) rfl rfl (by kernel_rfl) (by kernel_rfl) (by kernel_rfl) (fun _ _ _ h => h) (by rfl) (Below.refl _ w).drew ?_ ?_
  rotate_left
  · intro W' hW'
    go_simp
    try with_reducible rfl
  simp only [Act.put, List.setIfInBounds_toArray, List.set_cons_zero, List.set_cons_succ]
  refine wpAnyH_done (by kernel_rfl) ?_ _
  obtain ⟨W1, hW1⟩ : ∃ W1, w.drew = W1 := ⟨_, rfl⟩
  have hb1 : Below w.heap.size w W1 := by rw [← hW1]; exact (Below.refl _ w).drew
  have hse : W1.heap.size = w.heap.size := by rw [← hW1]; rfl
  rw [hW1]
  clear hW1
  have HB1 := Lib.hid hb1
  have HBx := Lib.hid (HB.out.below hb1)
  have HAx := Lib.hid (HA.out.below hb1)
  clear hb1
  have hB8 : Bytes W1 (some ⟨a.block, a.off + (M + 7 + 1), none⟩) 8 (zs.drop (M + 8)) := by
    have h := HBx.out.drop (cap := d) (M + 8) (by omega) (by omega)
    rw [if_neg (by omega)] at h
    have e : a.add (M + 8) = ⟨a.block, a.off + (M + 7 + 1), none⟩ := by unfold Addr.add; rw [if_neg (by omega)]
    have h2 : Bytes W1 (some (a.add (M + 8))) (M + 16 - (M + 8)) (zs.drop (M + 8)) := h
    rw [e, show M + 16 - (M + 8) = 8 by omega] at h2
    exact h2
  have hBh : Bytes W1 (some ⟨a.block, a.off + 8, none⟩) M (hidL zs) := by
    have h := HBx.out.drop (cap := d) 8 (by omega) (by omega)
    rw [if_neg (by omega)] at h
    have e : a.add 8 = ⟨a.block, a.off + 8, none⟩ := by unfold Addr.add; rw [if_neg (by omega)]
    have h2 : Bytes W1 (some (a.add 8)) (M + 16 - 8) (zs.drop 8) := h
    rw [e] at h2
    have h3 := h2.take M (by omega)
    unfold hidL
    rw [hl, show M + 16 - 16 = M by omega]
    exact h3
  obtain ⟨T1, hT1⟩ : ∃ T1, tagL zs = T1 := ⟨_, rfl⟩
  obtain ⟨hs, hhs⟩ : ∃ hs, hidL zs = hs := ⟨_, rfl⟩
  obtain ⟨T2, hT2⟩ : ∃ T2, tagW x y bs hs = T2 := ⟨_, rfl⟩
  have HT1 : Hid (rdG (zs.drop (M + 8)) 8 = T1) := Lib.hid (by rw [← hT1]; unfold tagL; rw [hl, show M + 16 - 8 = M + 8 by omega])
  rw [hT1, hy, hhs, hT2] at ht
  rw [hhs] at hBh
  rw [← ht] at hT2
  have hT2 : tagW x y bs hs = T1 := hT2
  have HOP : Hid (openL x zs = mixL hs (strN x y M) M) := Lib.hid (by unfold openL; rw [hl, hy, hhs, show M + 16 - 16 = M by omega])
  have HT2 := Lib.hid hT2
  have HB8 := Lib.hid hB8
  have HBh := Lib.hid hBh
  clear hB8 hBh hT1 hT2 hl hdO hdP hdQ ht hhs hy
  go_wp2_with fail
  refine (wordG_any _ 8 _ (zs.drop (M + 8)) _ HB8.out rfl).mono ?_
  rintro e w' ⟨rfl, rfl⟩
  rw [HT1.out]
  go_wp2_with fail
  refine (tagR_any x y A _ n c M _ bs hs _ HAx.out HBh.out (by omega) (by omega)).mono ?_
  rintro e w2 ⟨rfl, hb2⟩
  rw [HT2.out]
  have HG2 := Lib.hid hb2
  have HB2 := Lib.hid (HB1.out.trans (hb2.mono HB1.out.size))
  clear hb2
  go_wp2_with fail
  refine (mixR_any x y _ M _ hs _ (HBh.out.below HG2.out) hM).mono ?_
  rintro e w3 ⟨v3, rfl, hr3, hb3⟩
  have HR3 : Hid (Row w3 w.heap.size v3 M (openL x zs)) := Lib.hid (by rw [HOP.out]; exact Row.lower hr3 HB2.out.size)
  have HB3 := Lib.hid (HB2.out.trans (hb3.mono HB2.out.size))
  clear hr3 hb3
  go_wp2
  go_ret2
  exact ⟨v3, rfl, HR3.out, HB3.out⟩
end Go.Proofs.Ytgfcbgnlkiebhaa
