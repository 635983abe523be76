/- Open of the program. -/
import Derived.Test.YtgfcbgnlkiebhaaSpF
namespace Go.Proofs.Ytgfcbgnlkiebhaa
open Go.RowKit
set_option maxRecDepth 100000
theorem Bytes.cells8 {W : World} {b o : Nat} {ts : List Int} (h : Bytes W (some ⟨b, o, none⟩) 8 ts) : W.cell? ⟨b, o, none⟩ = some (.int .u8 (ts.getD 0 0)) ∧ W.cell? ⟨b, o + 1, none⟩ = some (.int .u8 (ts.getD 1 0)) ∧ W.cell? ⟨b, o + 2, none⟩ = some (.int .u8 (ts.getD 2 0)) ∧ W.cell? ⟨b, o + 3, none⟩ = some (.int .u8 (ts.getD 3 0)) ∧ W.cell? ⟨b, o + 4, none⟩ = some (.int .u8 (ts.getD 4 0)) ∧ W.cell? ⟨b, o + 5, none⟩ = some (.int .u8 (ts.getD 5 0)) ∧ W.cell? ⟨b, o + 6, none⟩ = some (.int .u8 (ts.getD 6 0)) ∧ W.cell? ⟨b, o + 7, none⟩ = some (.int .u8 (ts.getD 7 0)) := by
  have g : ∀ j, 0 < j → j < 8 → W.cell? ⟨b, o + j, none⟩ = some (.int .u8 (ts.getD j 0)) := fun j h0 hj => by
    obtain ⟨a, e, hc⟩ := h.at_ j hj
    cases e
    unfold Addr.add at hc
    rw [if_neg (by omega)] at hc
    exact hc
  have g0 : W.cell? ⟨b, o, none⟩ = some (.int .u8 (ts.getD 0 0)) := by
    obtain ⟨a, e, hc⟩ := h.at_ 0 (by omega)
    cases e
    unfold Addr.add at hc
    rw [if_pos rfl] at hc
    exact hc
  exact ⟨g0, g 1 (by omega) (by omega), g 2 (by omega) (by omega), g 3 (by omega) (by omega), g 4 (by omega) (by omega), g 5 (by omega) (by omega), g 6 (by omega) (by omega), g 7 (by omega) (by omega)⟩
theorem tag_same {W : World} {A : Option Addr} {ts : List Int} {q : BitVec 64} (h : Bytes W A 8 ts) : (ts.getD 0 0 = wb q 0 ∧ ts.getD 1 0 = wb q 1 ∧ ts.getD 2 0 = wb q 2 ∧ ts.getD 3 0 = wb q 3 ∧ ts.getD 4 0 = wb q 4 ∧ ts.getD 5 0 = wb q 5 ∧ ts.getD 6 0 = wb q 6 ∧ ts.getD 7 0 = wb q 7) ↔ rdG ts 8 = q := by
  have hl := h.len
  have hw : wbs (rdG ts 8) 8 = ts := rdG_fwd hl h.rng
  have hat : ∀ (z : BitVec 64) j, j < 8 → (wbs z 8).getD j 0 = wb z j := fun z j hj => by simp [wbs, List.getD, hj]
  constructor
  · rintro ⟨h0, h1, h2, h3, h4, h5, h6, h7⟩
    have e : ts = wbs q 8 := by
      apply List.ext_getElem (by rw [wbs_len]; exact hl)
      intro i i1 i2
      have e1 : ts[i] = ts.getD i 0 := by simp [List.getD, List.getElem?_eq_getElem i1]
      have e2 : (wbs q 8)[i] = (wbs q 8).getD i 0 := by simp [List.getD, List.getElem?_eq_getElem i2]
      rw [e1, e2, hat q i (by omega)]
      rcases (by omega : i = 0 ∨ i = 1 ∨ i = 2 ∨ i = 3 ∨ i = 4 ∨ i = 5 ∨ i = 6 ∨ i = 7) with rfl | rfl | rfl | rfl | rfl | rfl | rfl | rfl <;> assumption
    rw [e, rdG_back]
  · rintro rfl
    have g : ∀ j, j < 8 → ts.getD j 0 = wb (rdG ts 8) j := fun j hj => by
      rw [← hat _ j hj, hw]
    exact ⟨g 0 (by omega), g 1 (by omega), g 2 (by omega), g 3 (by omega), g 4 (by omega), g 5 (by omega), g 6 (by omega), g 7 (by omega)⟩
theorem openE_trunc (x : BitVec 64) (A B : Option Addr) (n c m d : Nat) (w : World) (hm : m < 16) :
    Calls Try.prog 16 #[.int .u64 (val x), .slice A n c, .slice B m d] w fun e w' => e = .returned (.tuple #[.slice none 0 0, .int .i64 1]) ∧ w = w' := by
  have h1 : (m : Int) < 16 := by omega
  go_enter Try.func16, Try.ntmps16
  go_wp2
  go_ret2
  exact ⟨rfl, rfl⟩
theorem openE_big (x : BitVec 64) (A B : Option Addr) (n c m d : Nat) (w : World) (hm : 16 ≤ m) (h : 1040 < m ∨ 1024 < n) :
    Calls Try.prog 16 #[.int .u64 (val x), .slice A n c, .slice B m d] w fun e w' => e = .returned (.tuple #[.slice none 0 0, .int .i64 8]) ∧ w = w' := by
  have h1 : ¬ (m : Int) < 16 := by omega
  by_cases h2 : 1040 < m
  · have h3 : (1040 : Int) < (m : Int) := by omega
    go_enter Try.func16, Try.ntmps16
    go_wp2
    go_ret2
    exact ⟨rfl, rfl⟩
  · have h3 : ¬ (1040 : Int) < (m : Int) := by omega
    have h4 : (1024 : Int) < (n : Int) := by omega
    go_enter Try.func16, Try.ntmps16
    go_wp2
    go_ret2
    exact ⟨rfl, rfl⟩
set_option maxHeartbeats 4000000 in
theorem openE_tag (x : BitVec 64) (A : Option Addr) (a : Addr) (n c M d : Nat) (bs zs : List Int) (w : World) (hA : Bytes w A n bs) (hB : Bytes w (some a) (M + 16) zs) (hM : M ≤ 1024) (hn : n ≤ 1024) (hd : M + 16 ≤ d) (ht : tagL zs ≠ tagW x (nonW zs) bs (hidL zs)) :
    Calls Try.prog 16 #[.int .u64 (val x), .slice A n c, .slice (some a) (M + 16) d] w fun e w' => e = .returned (.tuple #[.slice none 0 0, .int .i64 14]) ∧ Below w.heap.size w w' := by
  have h1 : ¬ ((M : Int) + 16) < 16 := by omega
  have h2 : ¬ (1040 : Int) < (M : Int) + 16 := by omega
  have h3 : ¬ (1024 : Int) < (n : Int) := by omega
  have hw1 : IntKind.i64.wrap ((M : Int) + 16 - 8) = (M : Int) + 8 := by rw [IntKind.wrap_i64]; omega
  have hw2 : wrap64 ((M : Int) + 16 - 8) = (M : Int) + 8 := by unfold wrap64; omega
  have hd8 : ¬ d = 8 := by omega
  have hd9 : ¬ d - 8 = 0 := by omega
  have hdI : (8 : Int) ≤ (d : Int) := by omega
  have hdJ : (M : Int) + 8 ≤ (d : Int) := by omega
  have hdK : (8 : Int) ≤ (M : Int) + 8 := by omega
  have hdN : M + 8 ≤ d := by omega
  have htn : ((M : Int) + 8).toNat = M + 8 := by omega
  have hdO : ¬ d = M + 8 := by omega
  have hdP : ¬ d - (M + 8) = 0 := by omega
  have hdQ : ¬ d ≤ M + 8 := by omega
  have hdR : (M : Int) + 8 ≤ (M : Int) + 16 := by omega
  have hd0 : (0 : Int) ≤ (M : Int) + 8 := by omega
  have hl := hB.len
  have HA := Lib.hid hA
  have HB := Lib.hid hB
  clear hA hB
  have hB8 : Bytes w (some ⟨a.block, a.off + (M + 7 + 1), none⟩) 8 (zs.drop (M + 8)) := by
    have h := HB.out.drop (cap := d) (M + 8) (by omega) (by omega)
    rw [if_neg (by omega)] at h
    have e : a.add (M + 8) = ⟨a.block, a.off + (M + 7 + 1), none⟩ := by unfold Addr.add; rw [if_neg (by omega)]
    have h2 : Bytes w (some (a.add (M + 8))) (M + 16 - (M + 8)) (zs.drop (M + 8)) := h
    rw [e, show M + 16 - (M + 8) = 8 by omega] at h2
    exact h2
  have hBh : Bytes w (some ⟨a.block, a.off + 8, none⟩) M (hidL zs) := by
    have h := HB.out.drop (cap := d) 8 (by omega) (by omega)
    rw [if_neg (by omega)] at h
    have e : a.add 8 = ⟨a.block, a.off + 8, none⟩ := by unfold Addr.add; rw [if_neg (by omega)]
    have h2 : Bytes w (some (a.add 8)) (M + 16 - 8) (zs.drop 8) := h
    rw [e] at h2
    have h3 := h2.take M (by omega)
    unfold hidL
    rw [hl, show M + 16 - 16 = M by omega]
    exact h3
  have htl : tagL zs = rdG (zs.drop (M + 8)) 8 := by unfold tagL; rw [hl, show M + 16 - 8 = M + 8 by omega]
  have hnon : zs.take 8 = wsBytes [nonW zs] := by
    rw [one_word]
    exact (rdG_fwd (by rw [List.length_take]; omega) (fun z hz => HB.out.rng z (List.mem_of_mem_take hz))).symm
  have hfr : (zs.take (M + 8)).drop 8 = hidL zs := by
    unfold hidL
    rw [hl, List.drop_take, show M + 8 - 8 = M by omega, show M + 16 - 16 = M by omega]
  have hft : (zs.take (M + 8)).take 8 = wsBytes [nonW zs] := by
    rw [List.take_take, show min 8 (M + 8) = 8 by omega, hnon]
  have HN8 : Hid (rdG (zs.take 8) 8 = nonW zs) := Lib.hid rfl
  have HOP : Hid (openL x zs = mixL (hidL zs) (strN x (nonW zs) M) M) := Lib.hid (by unfold openL; rw [hl, show M + 16 - 16 = M by omega])
  obtain ⟨y, hy⟩ : ∃ y, nonW zs = y := ⟨_, rfl⟩
  obtain ⟨hs, hhs⟩ : ∃ hs, hidL zs = hs := ⟨_, rfl⟩
  rw [hy] at hft ht HN8 HOP
  rw [hhs] at hfr hBh ht HOP
  obtain ⟨T2, hT2⟩ : ∃ T2, tagW x y bs hs = T2 := ⟨_, rfl⟩
  rw [hT2] at ht
  have hcmp := tag_same (q := T2) hB8
  rw [← htl] at hcmp
  have HT2 := Lib.hid hT2
  have HB8 := Lib.hid hB8
  have HBh := Lib.hid hBh
  have HFR := Lib.hid hfr
  have HFT := Lib.hid hft
  clear hB8 hBh hfr hft hnon htl hy hhs hT2 hl
  obtain ⟨z0, hz0⟩ : ∃ z, (zs.drop (M + 8)).getD 0 0 = z := ⟨_, rfl⟩
  obtain ⟨z1, hz1⟩ : ∃ z, (zs.drop (M + 8)).getD 1 0 = z := ⟨_, rfl⟩
  obtain ⟨z2, hz2⟩ : ∃ z, (zs.drop (M + 8)).getD 2 0 = z := ⟨_, rfl⟩
  obtain ⟨z3, hz3⟩ : ∃ z, (zs.drop (M + 8)).getD 3 0 = z := ⟨_, rfl⟩
  obtain ⟨z4, hz4⟩ : ∃ z, (zs.drop (M + 8)).getD 4 0 = z := ⟨_, rfl⟩
  obtain ⟨z5, hz5⟩ : ∃ z, (zs.drop (M + 8)).getD 5 0 = z := ⟨_, rfl⟩
  obtain ⟨z6, hz6⟩ : ∃ z, (zs.drop (M + 8)).getD 6 0 = z := ⟨_, rfl⟩
  obtain ⟨z7, hz7⟩ : ∃ z, (zs.drop (M + 8)).getD 7 0 = z := ⟨_, rfl⟩
  rw [hz0, hz1, hz2, hz3, hz4, hz5, hz6, hz7] at hcmp
  have hneq := fun W => neq_tag z0 z1 z2 z3 z4 z5 z6 z7 (wb T2 0) (wb T2 1) (wb T2 2) (wb T2 3) (wb T2 4) (wb T2 5) (wb T2 6) (wb T2 7) W
  rw [decide_eq_false (fun h => ht (hcmp.1 h)), Bool.not_false] at hneq
  have HZ0 := Lib.hid hz0
  have HZ1 := Lib.hid hz1
  have HZ2 := Lib.hid hz2
  have HZ3 := Lib.hid hz3
  have HZ4 := Lib.hid hz4
  have HZ5 := Lib.hid hz5
  have HZ6 := Lib.hid hz6
  have HZ7 := Lib.hid hz7
  clear hz0 hz1 hz2 hz3 hz4 hz5 hz6 hz7 hcmp ht
  go_enter Try.func16, Try.ntmps16
  go_wp2_with fail
  refine wp_region_held (S := fun W' => Below w.heap.size w W') (by kernel_rfl) ?_
  have hat : ∀ W, (Instr.arrayAt 43 (.slice (some ⟨a.block, a.off + (M + 7 + 1), none⟩) 8 (d - (M + 8)))).run Try.prog W = .ok (.pointer (some ⟨a.block, a.off + (M + 7 + 1), none⟩)) W := fun W => run_arrayAt W _ _ 8 _ 8 _ Try.underlying43 (Nat.le_refl _)
  refine hs_take (i := 0) (v := ?_) rfl rfl (by kernel_rfl) (by kernel_rfl) (by kernel_rfl) (fun _ _ _ h => h) (by rfl) (Below.refl _ w).drew ?_ ?_
  rotate_left
  · intro W' hW'
    go_simp
    try with_reducible rfl
  simp only [Act.put, List.setIfInBounds_toArray, List.set_cons_zero, List.set_cons_succ]
  refine hs_take (i := 1) (v := ?_) rfl rfl (by kernel_rfl) (by kernel_rfl) (by kernel_rfl) (fun _ _ _ h => h) (by rfl) (Below.refl _ w).drew ?_ ?_
  rotate_left
  · intro W' hW'
    go_simp
    try with_reducible rfl
  simp only [Act.put, List.setIfInBounds_toArray, List.set_cons_zero, List.set_cons_succ]
  refine hs_take (i := 2) (v := ?_) rfl rfl (by kernel_rfl) (by kernel_rfl) (by kernel_rfl) (fun _ _ _ h => h) (by rfl) (Below.refl _ w).drew ?_ ?_
  rotate_left
  · intro W' hW'
    go_simp
    try with_reducible rfl
  simp only [Act.put, List.setIfInBounds_toArray, List.set_cons_zero, List.set_cons_succ]
  refine hs_take (i := 3) (v := ?_) rfl rfl (by kernel_rfl) (by kernel_rfl) (by kernel_rfl) (fun _ _ _ h => h) (by rfl) (Below.refl _ w).drew ?_ ?_
  rotate_left
  · intro W' hW'
    go_simp
    try with_reducible rfl
  simp only [Act.put, List.setIfInBounds_toArray, List.set_cons_zero, List.set_cons_succ]
  refine hs_take (i := 4) (v := ?_) rfl rfl (by kernel_rfl) (by kernel_rfl) (by kernel_rfl) (fun _ _ _ h => h) (by rfl) (Below.refl _ w).drew ?_ ?_
  rotate_left
  · intro W' hW'
    obtain ⟨e0, e1, e2, e3, e4, e5, e6, e7⟩ := (HB8.out.below hW').cells8
    simp only [HZ0.out, HZ1.out, HZ2.out, HZ3.out, HZ4.out, HZ5.out, HZ6.out, HZ7.out] at e0 e1 e2 e3 e4 e5 e6 e7
    go_simp
    try with_reducible rfl
  simp only [Act.put, List.setIfInBounds_toArray, List.set_cons_zero, List.set_cons_succ]
  refine hs_take (i := 5) (v := ?_) rfl rfl (by kernel_rfl) (by kernel_rfl) (by kernel_rfl) (fun _ _ _ h => h) (by rfl) (Below.refl _ w).drew ?_ ?_
  rotate_left
  · intro W' hW'
    go_simp
    try with_reducible rfl
  simp only [Act.put, List.setIfInBounds_toArray, List.set_cons_zero, List.set_cons_succ]
  refine hs_take (i := 6) (v := ?_) rfl rfl (by kernel_rfl) (by kernel_rfl) (by kernel_rfl) (fun _ _ _ h => h) (by rfl) (Below.refl _ w).drew ?_ ?_
  rotate_left
  · intro W' hW'
    go_simp
    try with_reducible rfl
  simp only [Act.put, List.setIfInBounds_toArray, List.set_cons_zero, List.set_cons_succ]
  refine hs_take (i := 7) (v := ?_) rfl rfl (by kernel_rfl) (by kernel_rfl) (by kernel_rfl) (fun _ _ _ h => h) (by rfl) (Below.refl _ w).drew ?_ ?_
  rotate_left
  · intro W' hW'
    go_simp
    try with_reducible rfl
  simp only [Act.put, List.setIfInBounds_toArray, List.set_cons_zero, List.set_cons_succ]
  refine hs_take (i := 8) (v := ?_) rfl rfl (by kernel_rfl) (by kernel_rfl) (by kernel_rfl) (fun _ _ _ h => h) (by rfl) (Below.refl _ w).drew ?_ ?_
  rotate_left
  · intro W' hW'
    go_simp
    try with_reducible rfl
  simp only [Act.put, List.setIfInBounds_toArray, List.set_cons_zero, List.set_cons_succ]
  refine hs_take (i := 9) (v := ?_) rfl rfl (by kernel_rfl) (by kernel_rfl) (by kernel_rfl) (fun _ _ _ h => h) (by rfl) (Below.refl _ w).drew ?_ ?_
  rotate_left
  · intro W' hW'
    go_simp
    try with_reducible rfl
  simp only [Act.put, List.setIfInBounds_toArray, List.set_cons_zero, List.set_cons_succ]
  clear hat
  refine hs_call (i := 10) (by kernel_rfl) rfl (fun K' hK => ?_)
  go_simp
  refine (tagE_any x y A a n c M d bs (zs.take (M + 8)) hs _ (HA.out.below (Below.refl _ w).drew) ((HB.out.take (M + 8) (by omega)).below (Below.refl _ w).drew) hn hM hdN HFR.out HFT.out).mono ?_
  rintro e w2 ⟨rfl, hb2⟩
  rw [HT2.out]
  have hb2' : Below w.heap.size w w2 := (Below.refl _ w).drew.trans hb2
  have HB2 := Lib.hid hb2'
  clear hb2 hb2'
  unfold tagV
  refine hK.out _ _ HB2.out ?_
  clear hK K'
  refine hs_take (i := 11) (v := ?_) rfl rfl (by kernel_rfl) (by kernel_rfl) (by kernel_rfl) (fun _ _ _ h => h) (by rfl) HB2.out ?_ ?_
  rotate_left
  · intro W' hW'
    go_simp
    try with_reducible rfl
  simp only [Act.put, List.setIfInBounds_toArray, List.set_cons_zero, List.set_cons_succ]
  refine wpAnyH_done (by kernel_rfl) ?_ _
  clear hneq
  go_wp2
  go_ret2
  exact ⟨rfl, HB2.out⟩
set_option maxHeartbeats 4000000 in
theorem openE_ok (x : BitVec 64) (A : Option Addr) (a : Addr) (n c M d : Nat) (bs zs : List Int) (w : World) (hA : Bytes w A n bs) (hB : Bytes w (some a) (M + 16) zs) (hM : M ≤ 1024) (hn : n ≤ 1024) (hd : M + 16 ≤ d) (ht : tagL zs = tagW x (nonW zs) bs (hidL zs)) :
    Calls Try.prog 16 #[.int .u64 (val x), .slice A n c, .slice (some a) (M + 16) d] w fun e w' => ∃ v, e = .returned (.tuple #[v, .int .i64 0]) ∧ Row w' w.heap.size v M (openL x zs) ∧ Below w.heap.size w w' := by
  have h1 : ¬ ((M : Int) + 16) < 16 := by omega
  have h2 : ¬ (1040 : Int) < (M : Int) + 16 := by omega
  have h3 : ¬ (1024 : Int) < (n : Int) := by omega
  have hw1 : IntKind.i64.wrap ((M : Int) + 16 - 8) = (M : Int) + 8 := by rw [IntKind.wrap_i64]; omega
  have hw2 : wrap64 ((M : Int) + 16 - 8) = (M : Int) + 8 := by unfold wrap64; omega
  have hd8 : ¬ d = 8 := by omega
  have hd9 : ¬ d - 8 = 0 := by omega
  have hdI : (8 : Int) ≤ (d : Int) := by omega
  have hdJ : (M : Int) + 8 ≤ (d : Int) := by omega
  have hdK : (8 : Int) ≤ (M : Int) + 8 := by omega
  have hdN : M + 8 ≤ d := by omega
  have htn : ((M : Int) + 8).toNat = M + 8 := by omega
  have hdO : ¬ d = M + 8 := by omega
  have hdP : ¬ d - (M + 8) = 0 := by omega
  have hdQ : ¬ d ≤ M + 8 := by omega
  have hdR : (M : Int) + 8 ≤ (M : Int) + 16 := by omega
  have hd0 : (0 : Int) ≤ (M : Int) + 8 := by omega
  have hl := hB.len
  have HA := Lib.hid hA
  have HB := Lib.hid hB
  clear hA hB
  have hB8 : Bytes w (some ⟨a.block, a.off + (M + 7 + 1), none⟩) 8 (zs.drop (M + 8)) := by
    have h := HB.out.drop (cap := d) (M + 8) (by omega) (by omega)
    rw [if_neg (by omega)] at h
    have e : a.add (M + 8) = ⟨a.block, a.off + (M + 7 + 1), none⟩ := by unfold Addr.add; rw [if_neg (by omega)]
    have h2 : Bytes w (some (a.add (M + 8))) (M + 16 - (M + 8)) (zs.drop (M + 8)) := h
    rw [e, show M + 16 - (M + 8) = 8 by omega] at h2
    exact h2
  have hBh : Bytes w (some ⟨a.block, a.off + 8, none⟩) M (hidL zs) := by
    have h := HB.out.drop (cap := d) 8 (by omega) (by omega)
    rw [if_neg (by omega)] at h
    have e : a.add 8 = ⟨a.block, a.off + 8, none⟩ := by unfold Addr.add; rw [if_neg (by omega)]
    have h2 : Bytes w (some (a.add 8)) (M + 16 - 8) (zs.drop 8) := h
    rw [e] at h2
    have h3 := h2.take M (by omega)
    unfold hidL
    rw [hl, show M + 16 - 16 = M by omega]
    exact h3
  have htl : tagL zs = rdG (zs.drop (M + 8)) 8 := by unfold tagL; rw [hl, show M + 16 - 8 = M + 8 by omega]
  have hnon : zs.take 8 = wsBytes [nonW zs] := by
    rw [one_word]
    exact (rdG_fwd (by rw [List.length_take]; omega) (fun z hz => HB.out.rng z (List.mem_of_mem_take hz))).symm
  have hfr : (zs.take (M + 8)).drop 8 = hidL zs := by
    unfold hidL
    rw [hl, List.drop_take, show M + 8 - 8 = M by omega, show M + 16 - 16 = M by omega]
  have hft : (zs.take (M + 8)).take 8 = wsBytes [nonW zs] := by
    rw [List.take_take, show min 8 (M + 8) = 8 by omega, hnon]
  have HN8 : Hid (rdG (zs.take 8) 8 = nonW zs) := Lib.hid rfl
  have HOP : Hid (openL x zs = mixL (hidL zs) (strN x (nonW zs) M) M) := Lib.hid (by unfold openL; rw [hl, show M + 16 - 16 = M by omega])
  obtain ⟨y, hy⟩ : ∃ y, nonW zs = y := ⟨_, rfl⟩
  obtain ⟨hs, hhs⟩ : ∃ hs, hidL zs = hs := ⟨_, rfl⟩
  rw [hy] at hft ht HN8 HOP
  rw [hhs] at hfr hBh ht HOP
  obtain ⟨T2, hT2⟩ : ∃ T2, tagW x y bs hs = T2 := ⟨_, rfl⟩
  rw [hT2] at ht
  have hcmp := tag_same (q := T2) hB8
  rw [← htl] at hcmp
  have HT2 := Lib.hid hT2
  have HB8 := Lib.hid hB8
  have HBh := Lib.hid hBh
  have HFR := Lib.hid hfr
  have HFT := Lib.hid hft
  clear hB8 hBh hfr hft hnon htl hy hhs hT2 hl
  obtain ⟨z0, hz0⟩ : ∃ z, (zs.drop (M + 8)).getD 0 0 = z := ⟨_, rfl⟩
  obtain ⟨z1, hz1⟩ : ∃ z, (zs.drop (M + 8)).getD 1 0 = z := ⟨_, rfl⟩
  obtain ⟨z2, hz2⟩ : ∃ z, (zs.drop (M + 8)).getD 2 0 = z := ⟨_, rfl⟩
  obtain ⟨z3, hz3⟩ : ∃ z, (zs.drop (M + 8)).getD 3 0 = z := ⟨_, rfl⟩
  obtain ⟨z4, hz4⟩ : ∃ z, (zs.drop (M + 8)).getD 4 0 = z := ⟨_, rfl⟩
  obtain ⟨z5, hz5⟩ : ∃ z, (zs.drop (M + 8)).getD 5 0 = z := ⟨_, rfl⟩
  obtain ⟨z6, hz6⟩ : ∃ z, (zs.drop (M + 8)).getD 6 0 = z := ⟨_, rfl⟩
  obtain ⟨z7, hz7⟩ : ∃ z, (zs.drop (M + 8)).getD 7 0 = z := ⟨_, rfl⟩
  rw [hz0, hz1, hz2, hz3, hz4, hz5, hz6, hz7] at hcmp
  have hneq := fun W => neq_tag z0 z1 z2 z3 z4 z5 z6 z7 (wb T2 0) (wb T2 1) (wb T2 2) (wb T2 3) (wb T2 4) (wb T2 5) (wb T2 6) (wb T2 7) W
  rw [decide_eq_true (hcmp.2 ht), Bool.not_true] at hneq
  have HZ0 := Lib.hid hz0
  have HZ1 := Lib.hid hz1
  have HZ2 := Lib.hid hz2
  have HZ3 := Lib.hid hz3
  have HZ4 := Lib.hid hz4
  have HZ5 := Lib.hid hz5
  have HZ6 := Lib.hid hz6
  have HZ7 := Lib.hid hz7
  clear hz0 hz1 hz2 hz3 hz4 hz5 hz6 hz7 hcmp ht
  go_enter Try.func16, Try.ntmps16
  go_wp2_with fail
  refine wp_region_held (S := fun W' => Below w.heap.size w W') (by kernel_rfl) ?_
  have hat : ∀ W, (Instr.arrayAt 43 (.slice (some ⟨a.block, a.off + (M + 7 + 1), none⟩) 8 (d - (M + 8)))).run Try.prog W = .ok (.pointer (some ⟨a.block, a.off + (M + 7 + 1), none⟩)) W := fun W => run_arrayAt W _ _ 8 _ 8 _ Try.underlying43 (Nat.le_refl _)
  refine hs_take (i := 0) (v := ?_) rfl rfl (by kernel_rfl) (by kernel_rfl) (by kernel_rfl) (fun _ _ _ h => h) (by rfl) (Below.refl _ w).drew ?_ ?_
  rotate_left
  · intro W' hW'
    go_simp
    try with_reducible rfl
  simp only [Act.put, List.setIfInBounds_toArray, List.set_cons_zero, List.set_cons_succ]
  refine hs_take (i := 1) (v := ?_) rfl rfl (by kernel_rfl) (by kernel_rfl) (by kernel_rfl) (fun _ _ _ h => h) (by rfl) (Below.refl _ w).drew ?_ ?_
  rotate_left
  · intro W' hW'
    go_simp
    try with_reducible rfl
  simp only [Act.put, List.setIfInBounds_toArray, List.set_cons_zero, List.set_cons_succ]
  refine hs_take (i := 2) (v := ?_) rfl rfl (by kernel_rfl) (by kernel_rfl) (by kernel_rfl) (fun _ _ _ h => h) (by rfl) (Below.refl _ w).drew ?_ ?_
  rotate_left
  · intro W' hW'
    go_simp
    try with_reducible rfl
  simp only [Act.put, List.setIfInBounds_toArray, List.set_cons_zero, List.set_cons_succ]
  refine hs_take (i := 3) (v := ?_) rfl rfl (by kernel_rfl) (by kernel_rfl) (by kernel_rfl) (fun _ _ _ h => h) (by rfl) (Below.refl _ w).drew ?_ ?_
  rotate_left
  · intro W' hW'
    go_simp
    try with_reducible rfl
  simp only [Act.put, List.setIfInBounds_toArray, List.set_cons_zero, List.set_cons_succ]
  refine hs_take (i := 4) (v := ?_) rfl rfl (by kernel_rfl) (by kernel_rfl) (by kernel_rfl) (fun _ _ _ h => h) (by rfl) (Below.refl _ w).drew ?_ ?_
  rotate_left
  · intro W' hW'
    obtain ⟨e0, e1, e2, e3, e4, e5, e6, e7⟩ := (HB8.out.below hW').cells8
    simp only [HZ0.out, HZ1.out, HZ2.out, HZ3.out, HZ4.out, HZ5.out, HZ6.out, HZ7.out] at e0 e1 e2 e3 e4 e5 e6 e7
    go_simp
    try with_reducible rfl
  simp only [Act.put, List.setIfInBounds_toArray, List.set_cons_zero, List.set_cons_succ]
  refine hs_take (i := 5) (v := ?_) rfl rfl (by kernel_rfl) (by kernel_rfl) (by kernel_rfl) (fun _ _ _ h => h) (by rfl) (Below.refl _ w).drew ?_ ?_
  rotate_left
  · intro W' hW'
    go_simp
    try with_reducible rfl
  simp only [Act.put, List.setIfInBounds_toArray, List.set_cons_zero, List.set_cons_succ]
  refine hs_take (i := 6) (v := ?_) rfl rfl (by kernel_rfl) (by kernel_rfl) (by kernel_rfl) (fun _ _ _ h => h) (by rfl) (Below.refl _ w).drew ?_ ?_
  rotate_left
  · intro W' hW'
    go_simp
    try with_reducible rfl
  simp only [Act.put, List.setIfInBounds_toArray, List.set_cons_zero, List.set_cons_succ]
  refine hs_take (i := 7) (v := ?_) rfl rfl (by kernel_rfl) (by kernel_rfl) (by kernel_rfl) (fun _ _ _ h => h) (by rfl) (Below.refl _ w).drew ?_ ?_
  rotate_left
  · intro W' hW'
    go_simp
    try with_reducible rfl
  simp only [Act.put, List.setIfInBounds_toArray, List.set_cons_zero, List.set_cons_succ]
  refine hs_take (i := 8) (v := ?_) rfl rfl (by kernel_rfl) (by kernel_rfl) (by kernel_rfl) (fun _ _ _ h => h) (by rfl) (Below.refl _ w).drew ?_ ?_
  rotate_left
  · intro W' hW'
    go_simp
    try with_reducible rfl
  simp only [Act.put, List.setIfInBounds_toArray, List.set_cons_zero, List.set_cons_succ]
  refine hs_take (i := 9) (v := ?_) rfl rfl (by kernel_rfl) (by kernel_rfl) (by kernel_rfl) (fun _ _ _ h => h) (by rfl) (Below.refl _ w).drew ?_ ?_
  rotate_left
  · intro W' hW'
    go_simp
    try with_reducible rfl
  simp only [Act.put, List.setIfInBounds_toArray, List.set_cons_zero, List.set_cons_succ]
  clear hat
  refine hs_call (i := 10) (by kernel_rfl) rfl (fun K' hK => ?_)
  go_simp
  refine (tagE_any x y A a n c M d bs (zs.take (M + 8)) hs _ (HA.out.below (Below.refl _ w).drew) ((HB.out.take (M + 8) (by omega)).below (Below.refl _ w).drew) hn hM hdN HFR.out HFT.out).mono ?_
  rintro e w2 ⟨rfl, hb2⟩
  rw [HT2.out]
  have hb2' : Below w.heap.size w w2 := (Below.refl _ w).drew.trans hb2
  have HB2 := Lib.hid hb2'
  clear hb2 hb2'
  unfold tagV
  refine hK.out _ _ HB2.out ?_
  clear hK K'
  refine hs_take (i := 11) (v := ?_) rfl rfl (by kernel_rfl) (by kernel_rfl) (by kernel_rfl) (fun _ _ _ h => h) (by rfl) HB2.out ?_ ?_
  rotate_left
  · intro W' hW'
    go_simp
    try with_reducible rfl
  simp only [Act.put, List.setIfInBounds_toArray, List.set_cons_zero, List.set_cons_succ]
  refine wpAnyH_done (by kernel_rfl) ?_ _
  clear hneq
  have HBx := Lib.hid (HB.out.below HB2.out)
  have HBh2 := Lib.hid (HBh.out.below HB2.out)
  go_wp2_with fail
  refine wp_region_held (S := fun W' => Below w.heap.size w W') (by kernel_rfl) ?_
  refine hs_take (i := 0) (v := ?_) rfl rfl (by kernel_rfl) (by kernel_rfl) (by kernel_rfl) (fun _ _ _ h => h) (by rfl) HB2.out.drew ?_ ?_
  rotate_left
  · intro W' hW'
    go_simp
    try with_reducible rfl
  simp only [Act.put, List.setIfInBounds_toArray, List.set_cons_zero, List.set_cons_succ]
  refine hs_take (i := 1) (v := ?_) rfl rfl (by kernel_rfl) (by kernel_rfl) (by kernel_rfl) (fun _ _ _ h => h) (by rfl) HB2.out.drew ?_ ?_
  rotate_left
  · intro W' hW'
    go_simp
    try with_reducible rfl
  simp only [Act.put, List.setIfInBounds_toArray, List.set_cons_zero, List.set_cons_succ]
  refine hs_take (i := 2) (v := ?_) rfl rfl (by kernel_rfl) (by kernel_rfl) (by kernel_rfl) (fun _ _ _ h => h) (by rfl) HB2.out.drew ?_ ?_
  rotate_left
  · intro W' hW'
    go_simp
    try with_reducible rfl
  simp only [Act.put, List.setIfInBounds_toArray, List.set_cons_zero, List.set_cons_succ]
  refine hs_take (i := 4) (v := ?_) rfl rfl (by kernel_rfl) (by kernel_rfl) (by kernel_rfl) (fun _ _ _ h => h) (by rfl) HB2.out.drew ?_ ?_
  rotate_left
  · intro W' hW'
    go_simp
    try with_reducible rfl
  simp only [Act.put, List.setIfInBounds_toArray, List.set_cons_zero, List.set_cons_succ]
  refine hs_take (i := 5) (v := ?_) rfl rfl (by kernel_rfl) (by kernel_rfl) (by kernel_rfl) (fun _ _ _ h => h) (by rfl) HB2.out.drew ?_ ?_
  rotate_left
  · intro W' hW'
    go_simp
    try with_reducible rfl
  simp only [Act.put, List.setIfInBounds_toArray, List.set_cons_zero, List.set_cons_succ]
  refine hs_take (i := 6) (v := ?_) rfl rfl (by kernel_rfl) (by kernel_rfl) (by kernel_rfl) (fun _ _ _ h => h) (by rfl) HB2.out.drew ?_ ?_
  rotate_left
  · intro W' hW'
    go_simp
    try with_reducible rfl
  simp only [Act.put, List.setIfInBounds_toArray, List.set_cons_zero, List.set_cons_succ]
  refine hs_call (i := 3) (by kernel_rfl) rfl (fun K' hK => ?_)
  go_simp
  refine (wordE_any _ 8 _ (zs.take 8) _ ((HBx.out.take 8 (by omega)).below (Below.refl _ w2).drew) rfl).mono ?_
  rintro e w' ⟨rfl, rfl⟩
  rw [HN8.out]
  refine hK.out _ _ HB2.out.drew ?_
  clear hK K'
  refine hs_call (i := 7) (by kernel_rfl) rfl (fun K' hK => ?_)
  go_simp
  refine (combineE_any x y _ M _ hs _ (HBh2.out.below (Below.refl _ w2).drew) hM).mono ?_
  rintro e w3 ⟨v3, rfl, hr3, hb3⟩
  have HR3 : Hid (Row w3 w.heap.size v3 M (openL x zs)) := Lib.hid (by rw [HOP.out]; exact Row.lower hr3 HB2.out.size)
  have HB3 := Lib.hid (HB2.out.drew.trans (hb3.mono HB2.out.size))
  clear hr3 hb3
  refine hK.out _ _ HB3.out ?_
  clear hK K'
  refine hs_take (i := 8) (v := ?_) rfl rfl (by kernel_rfl) (by kernel_rfl) (by kernel_rfl) (fun _ _ _ h => h) (by rfl) HB3.out ?_ ?_
  rotate_left
  · intro W' hW'
    go_simp
    try with_reducible rfl
  simp only [Act.put, List.setIfInBounds_toArray, List.set_cons_zero, List.set_cons_succ]
  refine hs_take (i := 9) (v := ?_) rfl rfl (by kernel_rfl) (by kernel_rfl) (by kernel_rfl) (fun _ _ _ h => h) (by rfl) HB3.out ?_ ?_
  rotate_left
  · intro W' hW'
    go_simp
    try with_reducible rfl
  simp only [Act.put, List.setIfInBounds_toArray, List.set_cons_zero, List.set_cons_succ]
  refine wpAnyH_done (by kernel_rfl) ?_ _
  go_wp2
  go_ret2
  exact ⟨v3, rfl, HR3.out, HB3.out⟩
end Go.Proofs.Ytgfcbgnlkiebhaa
