/- Layer 6: the law SealLimits. -/
import Derived.Test.YtgfcbgnlkiebhaaSeK
import Derived.Deep.Cut
namespace Go.Proofs.Ytgfcbgnlkiebhaa
open Go.RowKit
set_option maxRecDepth 100000

theorem made_zeros (n : Nat) : (madeCells (Value.int .u8 0).cells (n * 1)).toList = bv (List.replicate n 0) := by
  apply List.ext_getElem?
  intro j
  rw [Array.getElem?_toList]
  rcases Nat.lt_or_ge j n with h | h
  · simp [madeCells, Value.cells, bv, h, Nat.mod_one]
  · rw [Array.getElem?_eq_none (by rw [size_madeCells]; omega), List.getElem?_eq_none (by simp [bv]; exact h)]
theorem zeros_rng (k : Nat) : ∀ z ∈ List.replicate k (0 : Int), 0 ≤ z ∧ z ≤ 255 := by
  intro z hz
  rw [(List.mem_replicate.1 hz).2]
  omega
theorem make_bytes (w : World) (k : Nat) (hk : k ≤ 100000) : ∃ w', (Instr.makeSlice 23 (.int .i64 (k : Int)) (.int .i64 (k : Int))).run Try.prog w = .ok (.slice (some ⟨w.heap.size, 0, none⟩) k k) w' ∧ Bytes w' (some ⟨w.heap.size, 0, none⟩) k (List.replicate k 0) ∧ Below w.heap.size w w' := by
  obtain ⟨i0, hi, hz0, hz1, hz2⟩ := info_parts infoB
  obtain ⟨w', h1, h2, h3⟩ := run_makeSlice_full (P := Try.prog) (w := w) w.heap.size 23 5 i0 (.int .u8 0) 1 Try.underlying23 hi hz0 hz1 .i64 .i64 k (by omega) (by rw [hz2]; omega) (by unfold maxLen; omega) (Nat.le_refl _)
  rw [made_zeros] at h2
  obtain ⟨A, c, e, _, _, hy⟩ := (Row.of_own h2).bytes (zeros_rng k)
  cases e
  exact ⟨w', h1, hy, ⟨h3.os, h3.tape, h3.output, h3.size, fun j hj => h3.block j hj (by simp)⟩⟩
/-- make in a drawn region -/
theorem hs_make {ops : Array Oper} {o : Oper} {a : Act} {W : World} {K : Act → World → Prop} {Q : Exit → Act → World → Prop} {E : Prop} (hw : Region.wanted o (yielded ops a.tmps) = true) (s x : Operand)
    (ho : o.op = .makeSlice 23 s x) (k : Nat) (hk : k ≤ 100000) (hs : a.eval s = .int .i64 (k : Int)) (hx : a.eval x = .int .i64 (k : Int))
    (h : ∀ w', Bytes w' (some ⟨W.heap.size, 0, none⟩) k (List.replicate k 0) → Below W.heap.size W w' → K (a.put o.dst (.slice (some ⟨W.heap.size, 0, none⟩) k k)) w') :
    if Region.wanted o (yielded ops a.tmps) = true then Oper.wp Try.prog o a W K Q else E := by
  rw [if_pos hw]
  obtain ⟨w', hr, h2, h3⟩ := make_bytes W k hk
  unfold Oper.wp
  simp [execOp, ho, hs, hx, hr, Result.andThen]
  exact h w' h2 h3
/-- make alone -/
theorem make_zeros {ops : Array Oper} {rest : List Oper} {o : Oper} {a : Act} {Q : Exit → Act → World → Prop} {w : World} (hgd : o.guard = none) (s x : Operand)
    (ho : o.op = .makeSlice 23 s x) (k : Nat) (hk : k ≤ 100000) (hs : a.eval s = .int .i64 (k : Int)) (hx : a.eval x = .int .i64 (k : Int))
    (h : ∀ w', Bytes w' (some ⟨w.heap.size, 0, none⟩) k (List.replicate k 0) → Below w.heap.size w w' → wpList Try.prog ops Q rest (a.put o.dst (.slice (some ⟨w.heap.size, 0, none⟩) k k)) w') :
    wpList Try.prog ops Q (o :: rest) a w := by
  refine wpList_plain hgd fun K hK => ?_
  obtain ⟨w', hr, h2, h3⟩ := make_bytes w k hk
  unfold Oper.wp
  simp [execOp, ho, hs, hx, hr, Result.andThen]
  exact hK _ _ (h w' h2 h3)
set_option maxHeartbeats 8000000 in
theorem limits_ok (q k : Nat) (w : World) (hkq : 1022 + q % 5 = k) (h : k ≤ 1024) :
    Calls Try.prog 8 #[.int .u8 (q : Int)] w fun e w' => e = .returned (.bool true) ∧ Below w.heap.size w w' := by
  have hk5 : k ≤ 1026 := by omega
  have hk0 : 1022 ≤ k := by omega
  have hkI : 1022 + (q : Int) % 5 = (k : Int) := by omega
  obtain ⟨k2, hk2⟩ : ∃ k2, k + 16 = k2 := ⟨_, rfl⟩
  have hk2I : (k : Int) + 16 = (k2 : Int) := by omega
  have hk2l : k2 ≤ 1042 := by omega
  have c1 : ∀ g1 g2 W, Bytes W (some ⟨g1, 0, none⟩) k (List.replicate k 0) → Bytes W (some ⟨g2, 0, none⟩) 5 (List.replicate 5 0) → Calls Try.prog 13 #[.int .u64 3, .int .u64 4, .slice (some ⟨g1, 0, none⟩) k k, .slice (some ⟨g2, 0, none⟩) 5 5] W (GivesB (sealL 3#64 4#64 (List.replicate k 0) (List.replicate 5 0)) (sealE (List.replicate k 0) (List.replicate 5 0)) W) := fun g1 g2 W h1 h2 => sealE_all 3#64 4#64 _ _ k k 5 5 _ _ W h1 h2 (Nat.le_refl _) (by omega) (by decide) (by decide)
  have c2 : ∀ g1 g2 W, Bytes W (some ⟨g1, 0, none⟩) 5 (List.replicate 5 0) → Bytes W (some ⟨g2, 0, none⟩) k (List.replicate k 0) → Calls Try.prog 13 #[.int .u64 3, .int .u64 4, .slice (some ⟨g1, 0, none⟩) 5 5, .slice (some ⟨g2, 0, none⟩) k k] W (GivesB (sealL 3#64 4#64 (List.replicate 5 0) (List.replicate k 0)) (sealE (List.replicate 5 0) (List.replicate k 0)) W) := fun g1 g2 W h1 h2 => sealE_all 3#64 4#64 _ _ 5 5 k k _ _ W h1 h2 (by decide) (by decide) (Nat.le_refl _) (by omega)
  have c3 : ∀ g W, Bytes W (some ⟨g, 0, none⟩) k2 (List.replicate k2 0) → Calls Try.prog 16 #[.int .u64 3, .slice none 0 0, .slice (some ⟨g, 0, none⟩) k2 k2] W (GivesB (openT 3#64 [] (List.replicate k2 0)) (openE 3#64 [] (List.replicate k2 0)) W) := fun g W h => openE_all 3#64 none _ 0 0 k2 k2 [] _ W (no_bytes W) h (by decide) (by decide) (Nat.le_refl _) (by omega)
  have c4 : ∀ g1 g2 W, Bytes W (some ⟨g1, 0, none⟩) k (List.replicate k 0) → Bytes W (some ⟨g2, 0, none⟩) 20 (List.replicate 20 0) → Calls Try.prog 16 #[.int .u64 3, .slice (some ⟨g1, 0, none⟩) k k, .slice (some ⟨g2, 0, none⟩) 20 20] W (GivesB (openT 3#64 (List.replicate k 0) (List.replicate 20 0)) (openE 3#64 (List.replicate k 0) (List.replicate 20 0)) W) := fun g1 g2 W h1 h2 => openE_all 3#64 _ _ k k 20 20 _ _ W h1 h2 (Nat.le_refl _) (by omega) (by decide) (by decide)
  have c5 : ∀ g W, Bytes W (some ⟨g, 0, none⟩) k2 (List.replicate k2 0) → Calls Try.prog 18 #[.int .u64 3, .slice none 0 0, .slice (some ⟨g, 0, none⟩) k2 k2] W (GivesB (openT 3#64 [] (List.replicate k2 0)) (openE 3#64 [] (List.replicate k2 0)) W) := fun g W h => openR_all 3#64 none _ 0 0 k2 k2 [] _ W (no_bytes W) h (Nat.le_refl _)
  have c6 : ∀ g1 g2 W, Bytes W (some ⟨g1, 0, none⟩) k (List.replicate k 0) → Bytes W (some ⟨g2, 0, none⟩) 20 (List.replicate 20 0) → Calls Try.prog 18 #[.int .u64 3, .slice (some ⟨g1, 0, none⟩) k k, .slice (some ⟨g2, 0, none⟩) 20 20] W (GivesB (openT 3#64 (List.replicate k 0) (List.replicate 20 0)) (openE 3#64 (List.replicate k 0) (List.replicate 20 0)) W) := fun g1 g2 W h1 h2 => openR_all 3#64 _ _ k k 20 20 _ _ W h1 h2 (by decide)
  have s1 := seal_small (x := 3#64) (y := 4#64) (bs := (List.replicate k 0)) (ts := (List.replicate 5 0)) (by simp) (by simp; omega)
  have s2 := seal_small (x := 3#64) (y := 4#64) (bs := (List.replicate 5 0)) (ts := (List.replicate k 0)) (by simp; omega) (by simp)
  rw [s1.1, s1.2] at c1
  rw [s2.1, s2.2] at c2
  have l1 : (boxB 3#64 4#64 (List.replicate k 0) (List.replicate 5 0)).length = 21 := by rw [box_len, List.length_replicate]
  have l2 : (boxB 3#64 4#64 (List.replicate 5 0) (List.replicate k 0)).length = k2 := by rw [box_len, List.length_replicate, hk2]
  generalize boxB 3#64 4#64 (List.replicate k 0) (List.replicate 5 0) = L1 at *
  generalize boxB 3#64 4#64 (List.replicate 5 0) (List.replicate k 0) = L2 at *
  generalize openE 3#64 [] (List.replicate k2 0) = E3 at *
  generalize openE 3#64 (List.replicate k 0) (List.replicate 20 0) = E4 at *
  generalize openT 3#64 [] (List.replicate k2 0) = L3 at *
  generalize openT 3#64 (List.replicate k 0) (List.replicate 20 0) = L4 at *
  have C1 := Lib.hid c1
  have C2 := Lib.hid c2
  have C3 := Lib.hid c3
  have C4 := Lib.hid c4
  have C5 := Lib.hid c5
  have C6 := Lib.hid c6
  have HB0 := Lib.hid (Below.refl w.heap.size w)
  have g1 : ¬ (1024 : Int) < (k : Int) := by omega
  clear hkq hk2 c1 c2 c3 c4 c5 c6
  have HX : Hid (k ≤ 1026 ∧ k2 ≤ 1042) := Lib.hid ⟨hk5, hk2l⟩
  have HL := Lib.hid (And.intro l1 l2)
  clear h s1 s2 l1 l2
  go_enter Try.func8, Try.ntmps8
  go_upto_region 2 with fail
  go_cut [4, 5] from 18 (fun sa sb wx => Hid (Below w.heap.size w wx) ∧ ∃ A n c, sa = .slice A n c ∧ Hid (n = L1.length) ∧ sb = .int .i64 0)
  case first =>
    refine wp_region_held (S := fun W' => Below w.heap.size w W') (by kernel_rfl) ?_
    refine hs_take (i := 0) (v := ?_) rfl rfl (by kernel_rfl) (by kernel_rfl) (by kernel_rfl) (fun _ _ _ h => h) (by rfl) HB0.out.drew ?_ ?_
    rotate_left
    · intro W' hW'
      go_simp
      try with_reducible rfl
    simp only [Act.put, List.setIfInBounds_toArray, List.set_cons_zero, List.set_cons_succ]
    refine hs_two (i := 1) (j := 2) (by kernel_rfl) rfl rfl ?_ ?_
    · intro K' hK
      refine hs_make (by rfl) _ _ rfl k (by omega) rfl rfl ?_
      intro W1 hya hba
      have HS1 := Lib.hid (HB0.out.drew.trans (hba.mono HB0.out.drew.size))
      have HYA := Lib.hid hya
      clear hya hba
      refine hK.out _ _ HS1.out ?_
      clear hK K'
      simp only [Act.put, List.setIfInBounds_toArray]
      refine hs_call (i := 2) (by kernel_rfl) rfl (fun K' hK => ?_)
      refine hs_make (by rfl) _ _ rfl 5 (by omega) rfl rfl ?_
      intro W2 hyb hbb
      have HS2 := Lib.hid (HS1.out.trans (hbb.mono HS1.out.size))
      have HYA2 := Lib.hid (HYA.out.below hbb)
      have HYB2 := Lib.hid hyb
      clear hyb hbb
      refine hK.out _ _ HS2.out ?_
      clear hK K'
      simp only [Act.put]
      refine hs_call (i := 3) (by kernel_rfl) rfl (fun K' hK => ?_)
      go_simp
      refine (C1.out _ _ _ HYA2.out HYB2.out).mono ?_
      rintro e W3 ⟨A, n, c, rfl, hy, _, _, hb⟩
      have hn := hy.len
      have HS3 := Lib.hid (HS2.out.trans (hb.mono HS2.out.size))
      have HN := Lib.hid hn
      clear hy hb hn
      refine hK.out _ _ HS3.out ?_
      clear hK K'
      refine hs_take (i := 4) (v := ?_) rfl rfl (by kernel_rfl) (by kernel_rfl) (by kernel_rfl) (fun _ _ _ h => h) (by rfl) HS3.out ?_ ?_
      rotate_left
      · intro W' hW'
        go_simp
        try with_reducible rfl
      simp only [Act.put, List.setIfInBounds_toArray, List.set_cons_zero, List.set_cons_succ]
      refine hs_take (i := 5) (v := ?_) rfl rfl (by kernel_rfl) (by kernel_rfl) (by kernel_rfl) (fun _ _ _ h => h) (by rfl) HS3.out ?_ ?_
      rotate_left
      · intro W' hW'
        go_simp
        try with_reducible rfl
      simp only [Act.put, List.setIfInBounds_toArray, List.set_cons_zero, List.set_cons_succ]
      refine hs_take (i := 6) (v := ?_) rfl rfl (by kernel_rfl) (by kernel_rfl) (by kernel_rfl) (fun _ _ _ h => h) (by rfl) HS3.out ?_ ?_
      rotate_left
      · intro W' hW'
        go_simp
        try with_reducible rfl
      simp only [Act.put, List.setIfInBounds_toArray, List.set_cons_zero, List.set_cons_succ]
      refine hs_take (i := 7) (v := ?_) rfl rfl (by kernel_rfl) (by kernel_rfl) (by kernel_rfl) (fun _ _ _ h => h) (by rfl) HS3.out ?_ ?_
      rotate_left
      · intro W' hW'
        go_simp
        try with_reducible rfl
      simp only [Act.put, List.setIfInBounds_toArray, List.set_cons_zero, List.set_cons_succ]
      refine hs_take (i := 8) (v := ?_) rfl rfl (by kernel_rfl) (by kernel_rfl) (by kernel_rfl) (fun _ _ _ h => h) (by rfl) HS3.out ?_ ?_
      rotate_left
      · intro W' hW'
        go_simp
        try with_reducible rfl
      simp only [Act.put, List.setIfInBounds_toArray, List.set_cons_zero, List.set_cons_succ]
      refine wpAnyH_done (by kernel_rfl) ?_ _
      go_wp2_with fail
      go_meet
      exact ⟨HS3, A, n, c, rfl, Lib.hid HN.out.symm, rfl⟩
    · intro K' hK
      refine hs_make (by rfl) _ _ rfl 5 (by omega) rfl rfl ?_
      intro W1 hya hba
      have HS1 := Lib.hid (HB0.out.drew.trans (hba.mono HB0.out.drew.size))
      have HYA := Lib.hid hya
      clear hya hba
      refine hK.out _ _ HS1.out ?_
      clear hK K'
      simp only [Act.put, List.setIfInBounds_toArray]
      refine hs_call (i := 1) (by kernel_rfl) rfl (fun K' hK => ?_)
      refine hs_make (by rfl) _ _ rfl k (by omega) rfl rfl ?_
      intro W2 hyb hbb
      have HS2 := Lib.hid (HS1.out.trans (hbb.mono HS1.out.size))
      have HYA2 := Lib.hid (HYA.out.below hbb)
      have HYB2 := Lib.hid hyb
      clear hyb hbb
      refine hK.out _ _ HS2.out ?_
      clear hK K'
      simp only [Act.put]
      refine hs_call (i := 3) (by kernel_rfl) rfl (fun K' hK => ?_)
      go_simp
      refine (C1.out _ _ _ HYB2.out HYA2.out).mono ?_
      rintro e W3 ⟨A, n, c, rfl, hy, _, _, hb⟩
      have hn := hy.len
      have HS3 := Lib.hid (HS2.out.trans (hb.mono HS2.out.size))
      have HN := Lib.hid hn
      clear hy hb hn
      refine hK.out _ _ HS3.out ?_
      clear hK K'
      refine hs_take (i := 4) (v := ?_) rfl rfl (by kernel_rfl) (by kernel_rfl) (by kernel_rfl) (fun _ _ _ h => h) (by rfl) HS3.out ?_ ?_
      rotate_left
      · intro W' hW'
        go_simp
        try with_reducible rfl
      simp only [Act.put, List.setIfInBounds_toArray, List.set_cons_zero, List.set_cons_succ]
      refine hs_take (i := 5) (v := ?_) rfl rfl (by kernel_rfl) (by kernel_rfl) (by kernel_rfl) (fun _ _ _ h => h) (by rfl) HS3.out ?_ ?_
      rotate_left
      · intro W' hW'
        go_simp
        try with_reducible rfl
      simp only [Act.put, List.setIfInBounds_toArray, List.set_cons_zero, List.set_cons_succ]
      refine hs_take (i := 6) (v := ?_) rfl rfl (by kernel_rfl) (by kernel_rfl) (by kernel_rfl) (fun _ _ _ h => h) (by rfl) HS3.out ?_ ?_
      rotate_left
      · intro W' hW'
        go_simp
        try with_reducible rfl
      simp only [Act.put, List.setIfInBounds_toArray, List.set_cons_zero, List.set_cons_succ]
      refine hs_take (i := 7) (v := ?_) rfl rfl (by kernel_rfl) (by kernel_rfl) (by kernel_rfl) (fun _ _ _ h => h) (by rfl) HS3.out ?_ ?_
      rotate_left
      · intro W' hW'
        go_simp
        try with_reducible rfl
      simp only [Act.put, List.setIfInBounds_toArray, List.set_cons_zero, List.set_cons_succ]
      refine hs_take (i := 8) (v := ?_) rfl rfl (by kernel_rfl) (by kernel_rfl) (by kernel_rfl) (fun _ _ _ h => h) (by rfl) HS3.out ?_ ?_
      rotate_left
      · intro W' hW'
        go_simp
        try with_reducible rfl
      simp only [Act.put, List.setIfInBounds_toArray, List.set_cons_zero, List.set_cons_succ]
      refine wpAnyH_done (by kernel_rfl) ?_ _
      go_wp2_with fail
      go_meet
      exact ⟨HS3, A, n, c, rfl, Lib.hid HN.out.symm, rfl⟩
  case rest =>
  obtain ⟨HB1, A4, n4, c4, rfl, hn4, rfl⟩ := hcut
  go_upto_region 3 with fail
  go_cut [6, 7] from 18 (fun sa sb wx => Hid (Below w.heap.size w wx) ∧ ∃ A n c, sa = .slice A n c ∧ Hid (n = L2.length) ∧ sb = .int .i64 0)
  case first =>
    refine wp_region_held (S := fun W' => Below w.heap.size w W') (by kernel_rfl) ?_
    refine hs_take (i := 1) (v := ?_) rfl rfl (by kernel_rfl) (by kernel_rfl) (by kernel_rfl) (fun _ _ _ h => h) (by rfl) HB1.out.drew ?_ ?_
    rotate_left
    · intro W' hW'
      go_simp
      try with_reducible rfl
    simp only [Act.put, List.setIfInBounds_toArray, List.set_cons_zero, List.set_cons_succ]
    refine hs_two (i := 0) (j := 2) (by kernel_rfl) rfl rfl ?_ ?_
    · intro K' hK
      refine hs_make (by rfl) _ _ rfl 5 (by omega) rfl rfl ?_
      intro W1 hya hba
      have HS1 := Lib.hid (HB1.out.drew.trans (hba.mono HB1.out.drew.size))
      have HYA := Lib.hid hya
      clear hya hba
      refine hK.out _ _ HS1.out ?_
      clear hK K'
      simp only [Act.put, List.setIfInBounds_toArray]
      refine hs_call (i := 2) (by kernel_rfl) rfl (fun K' hK => ?_)
      refine hs_make (by rfl) _ _ rfl k (by omega) rfl rfl ?_
      intro W2 hyb hbb
      have HS2 := Lib.hid (HS1.out.trans (hbb.mono HS1.out.size))
      have HYA2 := Lib.hid (HYA.out.below hbb)
      have HYB2 := Lib.hid hyb
      clear hyb hbb
      refine hK.out _ _ HS2.out ?_
      clear hK K'
      simp only [Act.put]
      refine hs_call (i := 3) (by kernel_rfl) rfl (fun K' hK => ?_)
      go_simp
      refine (C2.out _ _ _ HYA2.out HYB2.out).mono ?_
      rintro e W3 ⟨A, n, c, rfl, hy, _, _, hb⟩
      have hn := hy.len
      have HS3 := Lib.hid (HS2.out.trans (hb.mono HS2.out.size))
      have HN := Lib.hid hn
      clear hy hb hn
      refine hK.out _ _ HS3.out ?_
      clear hK K'
      refine hs_take (i := 4) (v := ?_) rfl rfl (by kernel_rfl) (by kernel_rfl) (by kernel_rfl) (fun _ _ _ h => h) (by rfl) HS3.out ?_ ?_
      rotate_left
      · intro W' hW'
        go_simp
        try with_reducible rfl
      simp only [Act.put, List.setIfInBounds_toArray, List.set_cons_zero, List.set_cons_succ]
      refine hs_take (i := 5) (v := ?_) rfl rfl (by kernel_rfl) (by kernel_rfl) (by kernel_rfl) (fun _ _ _ h => h) (by rfl) HS3.out ?_ ?_
      rotate_left
      · intro W' hW'
        go_simp
        try with_reducible rfl
      simp only [Act.put, List.setIfInBounds_toArray, List.set_cons_zero, List.set_cons_succ]
      refine hs_take (i := 6) (v := ?_) rfl rfl (by kernel_rfl) (by kernel_rfl) (by kernel_rfl) (fun _ _ _ h => h) (by rfl) HS3.out ?_ ?_
      rotate_left
      · intro W' hW'
        go_simp
        try with_reducible rfl
      simp only [Act.put, List.setIfInBounds_toArray, List.set_cons_zero, List.set_cons_succ]
      refine hs_take (i := 7) (v := ?_) rfl rfl (by kernel_rfl) (by kernel_rfl) (by kernel_rfl) (fun _ _ _ h => h) (by rfl) HS3.out ?_ ?_
      rotate_left
      · intro W' hW'
        go_simp
        try with_reducible rfl
      simp only [Act.put, List.setIfInBounds_toArray, List.set_cons_zero, List.set_cons_succ]
      refine hs_take (i := 8) (v := ?_) rfl rfl (by kernel_rfl) (by kernel_rfl) (by kernel_rfl) (fun _ _ _ h => h) (by rfl) HS3.out ?_ ?_
      rotate_left
      · intro W' hW'
        go_simp
        try with_reducible rfl
      simp only [Act.put, List.setIfInBounds_toArray, List.set_cons_zero, List.set_cons_succ]
      refine wpAnyH_done (by kernel_rfl) ?_ _
      go_wp2_with fail
      go_meet
      exact ⟨HS3, A, n, c, rfl, Lib.hid HN.out.symm, rfl⟩
    · intro K' hK
      refine hs_make (by rfl) _ _ rfl k (by omega) rfl rfl ?_
      intro W1 hya hba
      have HS1 := Lib.hid (HB1.out.drew.trans (hba.mono HB1.out.drew.size))
      have HYA := Lib.hid hya
      clear hya hba
      refine hK.out _ _ HS1.out ?_
      clear hK K'
      simp only [Act.put, List.setIfInBounds_toArray]
      refine hs_call (i := 0) (by kernel_rfl) rfl (fun K' hK => ?_)
      refine hs_make (by rfl) _ _ rfl 5 (by omega) rfl rfl ?_
      intro W2 hyb hbb
      have HS2 := Lib.hid (HS1.out.trans (hbb.mono HS1.out.size))
      have HYA2 := Lib.hid (HYA.out.below hbb)
      have HYB2 := Lib.hid hyb
      clear hyb hbb
      refine hK.out _ _ HS2.out ?_
      clear hK K'
      simp only [Act.put]
      refine hs_call (i := 3) (by kernel_rfl) rfl (fun K' hK => ?_)
      go_simp
      refine (C2.out _ _ _ HYB2.out HYA2.out).mono ?_
      rintro e W3 ⟨A, n, c, rfl, hy, _, _, hb⟩
      have hn := hy.len
      have HS3 := Lib.hid (HS2.out.trans (hb.mono HS2.out.size))
      have HN := Lib.hid hn
      clear hy hb hn
      refine hK.out _ _ HS3.out ?_
      clear hK K'
      refine hs_take (i := 4) (v := ?_) rfl rfl (by kernel_rfl) (by kernel_rfl) (by kernel_rfl) (fun _ _ _ h => h) (by rfl) HS3.out ?_ ?_
      rotate_left
      · intro W' hW'
        go_simp
        try with_reducible rfl
      simp only [Act.put, List.setIfInBounds_toArray, List.set_cons_zero, List.set_cons_succ]
      refine hs_take (i := 5) (v := ?_) rfl rfl (by kernel_rfl) (by kernel_rfl) (by kernel_rfl) (fun _ _ _ h => h) (by rfl) HS3.out ?_ ?_
      rotate_left
      · intro W' hW'
        go_simp
        try with_reducible rfl
      simp only [Act.put, List.setIfInBounds_toArray, List.set_cons_zero, List.set_cons_succ]
      refine hs_take (i := 6) (v := ?_) rfl rfl (by kernel_rfl) (by kernel_rfl) (by kernel_rfl) (fun _ _ _ h => h) (by rfl) HS3.out ?_ ?_
      rotate_left
      · intro W' hW'
        go_simp
        try with_reducible rfl
      simp only [Act.put, List.setIfInBounds_toArray, List.set_cons_zero, List.set_cons_succ]
      refine hs_take (i := 7) (v := ?_) rfl rfl (by kernel_rfl) (by kernel_rfl) (by kernel_rfl) (fun _ _ _ h => h) (by rfl) HS3.out ?_ ?_
      rotate_left
      · intro W' hW'
        go_simp
        try with_reducible rfl
      simp only [Act.put, List.setIfInBounds_toArray, List.set_cons_zero, List.set_cons_succ]
      refine hs_take (i := 8) (v := ?_) rfl rfl (by kernel_rfl) (by kernel_rfl) (by kernel_rfl) (fun _ _ _ h => h) (by rfl) HS3.out ?_ ?_
      rotate_left
      · intro W' hW'
        go_simp
        try with_reducible rfl
      simp only [Act.put, List.setIfInBounds_toArray, List.set_cons_zero, List.set_cons_succ]
      refine wpAnyH_done (by kernel_rfl) ?_ _
      go_wp2_with fail
      go_meet
      exact ⟨HS3, A, n, c, rfl, Lib.hid HN.out.symm, rfl⟩
  case rest =>
  obtain ⟨HB2, A6, n6, c6, rfl, hn6, rfl⟩ := hcut
  go_wp2_with (at_make; refine make_zeros rfl _ _ rfl k2 (by omega) rfl rfl ?_)
  intro w3 hy3 hb3
  have HY3 := Lib.hid hy3
  have HB3 := Lib.hid (HB2.out.trans (hb3.mono HB2.out.size))
  clear hy3 hb3
  go_wp2_with fail
  refine (C3.out _ _ HY3.out).mono ?_
  rintro e w4 ⟨A8, n8, c8, rfl, _, _, _, hb⟩
  have HB4 := Lib.hid (HB3.out.trans (hb.mono HB3.out.size))
  clear hb
  go_upto_region 5 with fail
  go_cut [10, 11] from 18 (fun sa sb wx => Hid (Below w.heap.size w wx) ∧ ∃ A n c, sa = .slice A n c ∧ Hid (n = L4.length) ∧ sb = .int .i64 E4)
  case first =>
    refine wp_region_held (S := fun W' => Below w.heap.size w W') (by kernel_rfl) ?_
    refine hs_take (i := 0) (v := ?_) rfl rfl (by kernel_rfl) (by kernel_rfl) (by kernel_rfl) (fun _ _ _ h => h) (by rfl) HB4.out.drew ?_ ?_
    rotate_left
    · intro W' hW'
      go_simp
      try with_reducible rfl
    simp only [Act.put, List.setIfInBounds_toArray, List.set_cons_zero, List.set_cons_succ]
    refine hs_two (i := 1) (j := 2) (by kernel_rfl) rfl rfl ?_ ?_
    · intro K' hK
      refine hs_make (by rfl) _ _ rfl k (by omega) rfl rfl ?_
      intro W1 hya hba
      have HS1 := Lib.hid (HB4.out.drew.trans (hba.mono HB4.out.drew.size))
      have HYA := Lib.hid hya
      clear hya hba
      refine hK.out _ _ HS1.out ?_
      clear hK K'
      simp only [Act.put, List.setIfInBounds_toArray]
      refine hs_call (i := 2) (by kernel_rfl) rfl (fun K' hK => ?_)
      refine hs_make (by rfl) _ _ rfl 20 (by omega) rfl rfl ?_
      intro W2 hyb hbb
      have HS2 := Lib.hid (HS1.out.trans (hbb.mono HS1.out.size))
      have HYA2 := Lib.hid (HYA.out.below hbb)
      have HYB2 := Lib.hid hyb
      clear hyb hbb
      refine hK.out _ _ HS2.out ?_
      clear hK K'
      simp only [Act.put]
      refine hs_call (i := 3) (by kernel_rfl) rfl (fun K' hK => ?_)
      go_simp
      refine (C4.out _ _ _ HYA2.out HYB2.out).mono ?_
      rintro e W3 ⟨A, n, c, rfl, hy, _, _, hb⟩
      have hn := hy.len
      have HS3 := Lib.hid (HS2.out.trans (hb.mono HS2.out.size))
      have HN := Lib.hid hn
      clear hy hb hn
      refine hK.out _ _ HS3.out ?_
      clear hK K'
      refine hs_take (i := 4) (v := ?_) rfl rfl (by kernel_rfl) (by kernel_rfl) (by kernel_rfl) (fun _ _ _ h => h) (by rfl) HS3.out ?_ ?_
      rotate_left
      · intro W' hW'
        go_simp
        try with_reducible rfl
      simp only [Act.put, List.setIfInBounds_toArray, List.set_cons_zero, List.set_cons_succ]
      refine hs_take (i := 5) (v := ?_) rfl rfl (by kernel_rfl) (by kernel_rfl) (by kernel_rfl) (fun _ _ _ h => h) (by rfl) HS3.out ?_ ?_
      rotate_left
      · intro W' hW'
        go_simp
        try with_reducible rfl
      simp only [Act.put, List.setIfInBounds_toArray, List.set_cons_zero, List.set_cons_succ]
      refine hs_take (i := 6) (v := ?_) rfl rfl (by kernel_rfl) (by kernel_rfl) (by kernel_rfl) (fun _ _ _ h => h) (by rfl) HS3.out ?_ ?_
      rotate_left
      · intro W' hW'
        go_simp
        try with_reducible rfl
      simp only [Act.put, List.setIfInBounds_toArray, List.set_cons_zero, List.set_cons_succ]
      refine hs_take (i := 7) (v := ?_) rfl rfl (by kernel_rfl) (by kernel_rfl) (by kernel_rfl) (fun _ _ _ h => h) (by rfl) HS3.out ?_ ?_
      rotate_left
      · intro W' hW'
        go_simp
        try with_reducible rfl
      simp only [Act.put, List.setIfInBounds_toArray, List.set_cons_zero, List.set_cons_succ]
      refine hs_take (i := 8) (v := ?_) rfl rfl (by kernel_rfl) (by kernel_rfl) (by kernel_rfl) (fun _ _ _ h => h) (by rfl) HS3.out ?_ ?_
      rotate_left
      · intro W' hW'
        go_simp
        try with_reducible rfl
      simp only [Act.put, List.setIfInBounds_toArray, List.set_cons_zero, List.set_cons_succ]
      refine wpAnyH_done (by kernel_rfl) ?_ _
      go_wp2_with fail
      go_meet
      exact ⟨HS3, A, n, c, rfl, Lib.hid HN.out.symm, rfl⟩
    · intro K' hK
      refine hs_make (by rfl) _ _ rfl 20 (by omega) rfl rfl ?_
      intro W1 hya hba
      have HS1 := Lib.hid (HB4.out.drew.trans (hba.mono HB4.out.drew.size))
      have HYA := Lib.hid hya
      clear hya hba
      refine hK.out _ _ HS1.out ?_
      clear hK K'
      simp only [Act.put, List.setIfInBounds_toArray]
      refine hs_call (i := 1) (by kernel_rfl) rfl (fun K' hK => ?_)
      refine hs_make (by rfl) _ _ rfl k (by omega) rfl rfl ?_
      intro W2 hyb hbb
      have HS2 := Lib.hid (HS1.out.trans (hbb.mono HS1.out.size))
      have HYA2 := Lib.hid (HYA.out.below hbb)
      have HYB2 := Lib.hid hyb
      clear hyb hbb
      refine hK.out _ _ HS2.out ?_
      clear hK K'
      simp only [Act.put]
      refine hs_call (i := 3) (by kernel_rfl) rfl (fun K' hK => ?_)
      go_simp
      refine (C4.out _ _ _ HYB2.out HYA2.out).mono ?_
      rintro e W3 ⟨A, n, c, rfl, hy, _, _, hb⟩
      have hn := hy.len
      have HS3 := Lib.hid (HS2.out.trans (hb.mono HS2.out.size))
      have HN := Lib.hid hn
      clear hy hb hn
      refine hK.out _ _ HS3.out ?_
      clear hK K'
      refine hs_take (i := 4) (v := ?_) rfl rfl (by kernel_rfl) (by kernel_rfl) (by kernel_rfl) (fun _ _ _ h => h) (by rfl) HS3.out ?_ ?_
      rotate_left
      · intro W' hW'
        go_simp
        try with_reducible rfl
      simp only [Act.put, List.setIfInBounds_toArray, List.set_cons_zero, List.set_cons_succ]
      refine hs_take (i := 5) (v := ?_) rfl rfl (by kernel_rfl) (by kernel_rfl) (by kernel_rfl) (fun _ _ _ h => h) (by rfl) HS3.out ?_ ?_
      rotate_left
      · intro W' hW'
        go_simp
        try with_reducible rfl
      simp only [Act.put, List.setIfInBounds_toArray, List.set_cons_zero, List.set_cons_succ]
      refine hs_take (i := 6) (v := ?_) rfl rfl (by kernel_rfl) (by kernel_rfl) (by kernel_rfl) (fun _ _ _ h => h) (by rfl) HS3.out ?_ ?_
      rotate_left
      · intro W' hW'
        go_simp
        try with_reducible rfl
      simp only [Act.put, List.setIfInBounds_toArray, List.set_cons_zero, List.set_cons_succ]
      refine hs_take (i := 7) (v := ?_) rfl rfl (by kernel_rfl) (by kernel_rfl) (by kernel_rfl) (fun _ _ _ h => h) (by rfl) HS3.out ?_ ?_
      rotate_left
      · intro W' hW'
        go_simp
        try with_reducible rfl
      simp only [Act.put, List.setIfInBounds_toArray, List.set_cons_zero, List.set_cons_succ]
      refine hs_take (i := 8) (v := ?_) rfl rfl (by kernel_rfl) (by kernel_rfl) (by kernel_rfl) (fun _ _ _ h => h) (by rfl) HS3.out ?_ ?_
      rotate_left
      · intro W' hW'
        go_simp
        try with_reducible rfl
      simp only [Act.put, List.setIfInBounds_toArray, List.set_cons_zero, List.set_cons_succ]
      refine wpAnyH_done (by kernel_rfl) ?_ _
      go_wp2_with fail
      go_meet
      exact ⟨HS3, A, n, c, rfl, Lib.hid HN.out.symm, rfl⟩
  case rest =>
  obtain ⟨HB5, A10, n10, c10, rfl, hn10, rfl⟩ := hcut
  go_wp2_with (at_make; refine make_zeros rfl _ _ rfl k2 (by omega) rfl rfl ?_)
  intro w6 hy6 hb6
  have HY6 := Lib.hid hy6
  have HB6 := Lib.hid (HB5.out.trans (hb6.mono HB5.out.size))
  clear hy6 hb6
  go_wp2_with fail
  refine (C5.out _ _ HY6.out).mono ?_
  rintro e w7 ⟨A14, n14, c14, rfl, _, _, _, hb⟩
  have HB7 := Lib.hid (HB6.out.trans (hb.mono HB6.out.size))
  clear hb
  go_upto_region 11 with fail
  go_cut [16, 17] from 18 (fun sa sb wx => Hid (Below w.heap.size w wx) ∧ ∃ A n c, sa = .slice A n c ∧ Hid (n = L4.length) ∧ sb = .int .i64 E4)
  case first =>
    refine wp_region_held (S := fun W' => Below w.heap.size w W') (by kernel_rfl) ?_
    refine hs_take (i := 0) (v := ?_) rfl rfl (by kernel_rfl) (by kernel_rfl) (by kernel_rfl) (fun _ _ _ h => h) (by rfl) HB7.out.drew ?_ ?_
    rotate_left
    · intro W' hW'
      go_simp
      try with_reducible rfl
    simp only [Act.put, List.setIfInBounds_toArray, List.set_cons_zero, List.set_cons_succ]
    refine hs_two (i := 1) (j := 2) (by kernel_rfl) rfl rfl ?_ ?_
    · intro K' hK
      refine hs_make (by rfl) _ _ rfl k (by omega) rfl rfl ?_
      intro W1 hya hba
      have HS1 := Lib.hid (HB7.out.drew.trans (hba.mono HB7.out.drew.size))
      have HYA := Lib.hid hya
      clear hya hba
      refine hK.out _ _ HS1.out ?_
      clear hK K'
      simp only [Act.put, List.setIfInBounds_toArray]
      refine hs_call (i := 2) (by kernel_rfl) rfl (fun K' hK => ?_)
      refine hs_make (by rfl) _ _ rfl 20 (by omega) rfl rfl ?_
      intro W2 hyb hbb
      have HS2 := Lib.hid (HS1.out.trans (hbb.mono HS1.out.size))
      have HYA2 := Lib.hid (HYA.out.below hbb)
      have HYB2 := Lib.hid hyb
      clear hyb hbb
      refine hK.out _ _ HS2.out ?_
      clear hK K'
      simp only [Act.put]
      refine hs_call (i := 3) (by kernel_rfl) rfl (fun K' hK => ?_)
      go_simp
      refine (C6.out _ _ _ HYA2.out HYB2.out).mono ?_
      rintro e W3 ⟨A, n, c, rfl, hy, _, _, hb⟩
      have hn := hy.len
      have HS3 := Lib.hid (HS2.out.trans (hb.mono HS2.out.size))
      have HN := Lib.hid hn
      clear hy hb hn
      refine hK.out _ _ HS3.out ?_
      clear hK K'
      refine hs_take (i := 4) (v := ?_) rfl rfl (by kernel_rfl) (by kernel_rfl) (by kernel_rfl) (fun _ _ _ h => h) (by rfl) HS3.out ?_ ?_
      rotate_left
      · intro W' hW'
        go_simp
        try with_reducible rfl
      simp only [Act.put, List.setIfInBounds_toArray, List.set_cons_zero, List.set_cons_succ]
      refine hs_take (i := 5) (v := ?_) rfl rfl (by kernel_rfl) (by kernel_rfl) (by kernel_rfl) (fun _ _ _ h => h) (by rfl) HS3.out ?_ ?_
      rotate_left
      · intro W' hW'
        go_simp
        try with_reducible rfl
      simp only [Act.put, List.setIfInBounds_toArray, List.set_cons_zero, List.set_cons_succ]
      refine hs_take (i := 6) (v := ?_) rfl rfl (by kernel_rfl) (by kernel_rfl) (by kernel_rfl) (fun _ _ _ h => h) (by rfl) HS3.out ?_ ?_
      rotate_left
      · intro W' hW'
        go_simp
        try with_reducible rfl
      simp only [Act.put, List.setIfInBounds_toArray, List.set_cons_zero, List.set_cons_succ]
      refine hs_take (i := 7) (v := ?_) rfl rfl (by kernel_rfl) (by kernel_rfl) (by kernel_rfl) (fun _ _ _ h => h) (by rfl) HS3.out ?_ ?_
      rotate_left
      · intro W' hW'
        go_simp
        try with_reducible rfl
      simp only [Act.put, List.setIfInBounds_toArray, List.set_cons_zero, List.set_cons_succ]
      refine hs_take (i := 8) (v := ?_) rfl rfl (by kernel_rfl) (by kernel_rfl) (by kernel_rfl) (fun _ _ _ h => h) (by rfl) HS3.out ?_ ?_
      rotate_left
      · intro W' hW'
        go_simp
        try with_reducible rfl
      simp only [Act.put, List.setIfInBounds_toArray, List.set_cons_zero, List.set_cons_succ]
      refine wpAnyH_done (by kernel_rfl) ?_ _
      go_wp2_with fail
      go_meet
      exact ⟨HS3, A, n, c, rfl, Lib.hid HN.out.symm, rfl⟩
    · intro K' hK
      refine hs_make (by rfl) _ _ rfl 20 (by omega) rfl rfl ?_
      intro W1 hya hba
      have HS1 := Lib.hid (HB7.out.drew.trans (hba.mono HB7.out.drew.size))
      have HYA := Lib.hid hya
      clear hya hba
      refine hK.out _ _ HS1.out ?_
      clear hK K'
      simp only [Act.put, List.setIfInBounds_toArray]
      refine hs_call (i := 1) (by kernel_rfl) rfl (fun K' hK => ?_)
      refine hs_make (by rfl) _ _ rfl k (by omega) rfl rfl ?_
      intro W2 hyb hbb
      have HS2 := Lib.hid (HS1.out.trans (hbb.mono HS1.out.size))
      have HYA2 := Lib.hid (HYA.out.below hbb)
      have HYB2 := Lib.hid hyb
      clear hyb hbb
      refine hK.out _ _ HS2.out ?_
      clear hK K'
      simp only [Act.put]
      refine hs_call (i := 3) (by kernel_rfl) rfl (fun K' hK => ?_)
      go_simp
      refine (C6.out _ _ _ HYB2.out HYA2.out).mono ?_
      rintro e W3 ⟨A, n, c, rfl, hy, _, _, hb⟩
      have hn := hy.len
      have HS3 := Lib.hid (HS2.out.trans (hb.mono HS2.out.size))
      have HN := Lib.hid hn
      clear hy hb hn
      refine hK.out _ _ HS3.out ?_
      clear hK K'
      refine hs_take (i := 4) (v := ?_) rfl rfl (by kernel_rfl) (by kernel_rfl) (by kernel_rfl) (fun _ _ _ h => h) (by rfl) HS3.out ?_ ?_
      rotate_left
      · intro W' hW'
        go_simp
        try with_reducible rfl
      simp only [Act.put, List.setIfInBounds_toArray, List.set_cons_zero, List.set_cons_succ]
      refine hs_take (i := 5) (v := ?_) rfl rfl (by kernel_rfl) (by kernel_rfl) (by kernel_rfl) (fun _ _ _ h => h) (by rfl) HS3.out ?_ ?_
      rotate_left
      · intro W' hW'
        go_simp
        try with_reducible rfl
      simp only [Act.put, List.setIfInBounds_toArray, List.set_cons_zero, List.set_cons_succ]
      refine hs_take (i := 6) (v := ?_) rfl rfl (by kernel_rfl) (by kernel_rfl) (by kernel_rfl) (fun _ _ _ h => h) (by rfl) HS3.out ?_ ?_
      rotate_left
      · intro W' hW'
        go_simp
        try with_reducible rfl
      simp only [Act.put, List.setIfInBounds_toArray, List.set_cons_zero, List.set_cons_succ]
      refine hs_take (i := 7) (v := ?_) rfl rfl (by kernel_rfl) (by kernel_rfl) (by kernel_rfl) (fun _ _ _ h => h) (by rfl) HS3.out ?_ ?_
      rotate_left
      · intro W' hW'
        go_simp
        try with_reducible rfl
      simp only [Act.put, List.setIfInBounds_toArray, List.set_cons_zero, List.set_cons_succ]
      refine hs_take (i := 8) (v := ?_) rfl rfl (by kernel_rfl) (by kernel_rfl) (by kernel_rfl) (fun _ _ _ h => h) (by rfl) HS3.out ?_ ?_
      rotate_left
      · intro W' hW'
        go_simp
        try with_reducible rfl
      simp only [Act.put, List.setIfInBounds_toArray, List.set_cons_zero, List.set_cons_succ]
      refine wpAnyH_done (by kernel_rfl) ?_ _
      go_wp2_with fail
      go_meet
      exact ⟨HS3, A, n, c, rfl, Lib.hid HN.out.symm, rfl⟩
  case rest =>
  obtain ⟨HB8, A16, n16, c16, rfl, hn16, rfl⟩ := hcut
  have e4 := hn4.out.trans HL.out.1
  have e6 := hn6.out.trans HL.out.2
  subst e4
  subst e6
  go_wp2_with fail
  refine (awake6_any _).mono ?_
  rintro e w9 ⟨rfl, hb⟩
  have HB9 := Lib.hid (HB8.out.trans (hb.mono HB8.out.size))
  clear hb
  go_wp2
  go_ret
  exact ⟨rfl, HB9.out⟩
set_option maxHeartbeats 8000000 in
theorem limits_big (q k : Nat) (w : World) (hkq : 1022 + q % 5 = k) (h : 1024 < k) :
    Calls Try.prog 8 #[.int .u8 (q : Int)] w fun e w' => e = .returned (.bool true) ∧ Below w.heap.size w w' := by
  have hk5 : k ≤ 1026 := by omega
  have hk0 : 1022 ≤ k := by omega
  have hkI : 1022 + (q : Int) % 5 = (k : Int) := by omega
  obtain ⟨k2, hk2⟩ : ∃ k2, k + 16 = k2 := ⟨_, rfl⟩
  have hk2I : (k : Int) + 16 = (k2 : Int) := by omega
  have hk2l : k2 ≤ 1042 := by omega
  have c1 : ∀ g1 g2 W, Bytes W (some ⟨g1, 0, none⟩) k (List.replicate k 0) → Bytes W (some ⟨g2, 0, none⟩) 5 (List.replicate 5 0) → Calls Try.prog 13 #[.int .u64 3, .int .u64 4, .slice (some ⟨g1, 0, none⟩) k k, .slice (some ⟨g2, 0, none⟩) 5 5] W (GivesB (sealL 3#64 4#64 (List.replicate k 0) (List.replicate 5 0)) (sealE (List.replicate k 0) (List.replicate 5 0)) W) := fun g1 g2 W h1 h2 => sealE_all 3#64 4#64 _ _ k k 5 5 _ _ W h1 h2 (Nat.le_refl _) (by omega) (by decide) (by decide)
  have c2 : ∀ g1 g2 W, Bytes W (some ⟨g1, 0, none⟩) 5 (List.replicate 5 0) → Bytes W (some ⟨g2, 0, none⟩) k (List.replicate k 0) → Calls Try.prog 13 #[.int .u64 3, .int .u64 4, .slice (some ⟨g1, 0, none⟩) 5 5, .slice (some ⟨g2, 0, none⟩) k k] W (GivesB (sealL 3#64 4#64 (List.replicate 5 0) (List.replicate k 0)) (sealE (List.replicate 5 0) (List.replicate k 0)) W) := fun g1 g2 W h1 h2 => sealE_all 3#64 4#64 _ _ 5 5 k k _ _ W h1 h2 (by decide) (by decide) (Nat.le_refl _) (by omega)
  have c3 : ∀ g W, Bytes W (some ⟨g, 0, none⟩) k2 (List.replicate k2 0) → Calls Try.prog 16 #[.int .u64 3, .slice none 0 0, .slice (some ⟨g, 0, none⟩) k2 k2] W (GivesB (openT 3#64 [] (List.replicate k2 0)) (openE 3#64 [] (List.replicate k2 0)) W) := fun g W h => openE_all 3#64 none _ 0 0 k2 k2 [] _ W (no_bytes W) h (by decide) (by decide) (Nat.le_refl _) (by omega)
  have c4 : ∀ g1 g2 W, Bytes W (some ⟨g1, 0, none⟩) k (List.replicate k 0) → Bytes W (some ⟨g2, 0, none⟩) 20 (List.replicate 20 0) → Calls Try.prog 16 #[.int .u64 3, .slice (some ⟨g1, 0, none⟩) k k, .slice (some ⟨g2, 0, none⟩) 20 20] W (GivesB (openT 3#64 (List.replicate k 0) (List.replicate 20 0)) (openE 3#64 (List.replicate k 0) (List.replicate 20 0)) W) := fun g1 g2 W h1 h2 => openE_all 3#64 _ _ k k 20 20 _ _ W h1 h2 (Nat.le_refl _) (by omega) (by decide) (by decide)
  have c5 : ∀ g W, Bytes W (some ⟨g, 0, none⟩) k2 (List.replicate k2 0) → Calls Try.prog 18 #[.int .u64 3, .slice none 0 0, .slice (some ⟨g, 0, none⟩) k2 k2] W (GivesB (openT 3#64 [] (List.replicate k2 0)) (openE 3#64 [] (List.replicate k2 0)) W) := fun g W h => openR_all 3#64 none _ 0 0 k2 k2 [] _ W (no_bytes W) h (Nat.le_refl _)
  have c6 : ∀ g1 g2 W, Bytes W (some ⟨g1, 0, none⟩) k (List.replicate k 0) → Bytes W (some ⟨g2, 0, none⟩) 20 (List.replicate 20 0) → Calls Try.prog 18 #[.int .u64 3, .slice (some ⟨g1, 0, none⟩) k k, .slice (some ⟨g2, 0, none⟩) 20 20] W (GivesB (openT 3#64 (List.replicate k 0) (List.replicate 20 0)) (openE 3#64 (List.replicate k 0) (List.replicate 20 0)) W) := fun g1 g2 W h1 h2 => openR_all 3#64 _ _ k k 20 20 _ _ W h1 h2 (by decide)
  have s1 : sealE (List.replicate k 0) (List.replicate 5 0) = 8 := by unfold sealE; rw [if_neg (by simp; omega)]
  have s2 : sealE (List.replicate 5 0) (List.replicate k 0) = 8 := by unfold sealE; rw [if_neg (by simp; omega)]
  have s3 : openE 3#64 [] (List.replicate k2 0) = 8 := by unfold openE; rw [if_neg (by simp; omega), if_pos (by simp; omega)]
  have s4 : openE 3#64 (List.replicate k 0) (List.replicate 20 0) = 8 := by unfold openE; rw [if_neg (by simp), if_pos (by simp; omega)]
  rw [s1] at c1
  rw [s2] at c2
  rw [s3] at c3 c5
  rw [s4] at c4 c6
  generalize sealL 3#64 4#64 (List.replicate k 0) (List.replicate 5 0) = L1 at *
  generalize sealL 3#64 4#64 (List.replicate 5 0) (List.replicate k 0) = L2 at *
  generalize openT 3#64 [] (List.replicate k2 0) = L3 at *
  generalize openT 3#64 (List.replicate k 0) (List.replicate 20 0) = L4 at *
  have C1 := Lib.hid c1
  have C2 := Lib.hid c2
  have C3 := Lib.hid c3
  have C4 := Lib.hid c4
  have C5 := Lib.hid c5
  have C6 := Lib.hid c6
  have HB0 := Lib.hid (Below.refl w.heap.size w)
  have g1 : (1024 : Int) < (k : Int) := by omega
  clear hkq hk2 c1 c2 c3 c4 c5 c6
  have HX : Hid (k ≤ 1026 ∧ k2 ≤ 1042) := Lib.hid ⟨hk5, hk2l⟩
  clear h s1 s2 s3 s4
  
  go_enter Try.func8, Try.ntmps8
  go_upto_region 2 with fail
  go_cut [4, 5] from 18 (fun sa sb wx => Hid (Below w.heap.size w wx) ∧ ∃ A n c, sa = .slice A n c ∧ Hid (n = L1.length) ∧ sb = .int .i64 8)
  case first =>
    refine wp_region_held (S := fun W' => Below w.heap.size w W') (by kernel_rfl) ?_
    refine hs_take (i := 0) (v := ?_) rfl rfl (by kernel_rfl) (by kernel_rfl) (by kernel_rfl) (fun _ _ _ h => h) (by rfl) HB0.out.drew ?_ ?_
    rotate_left
    · intro W' hW'
      go_simp
      try with_reducible rfl
    simp only [Act.put, List.setIfInBounds_toArray, List.set_cons_zero, List.set_cons_succ]
    refine hs_two (i := 1) (j := 2) (by kernel_rfl) rfl rfl ?_ ?_
    · intro K' hK
      refine hs_make (by rfl) _ _ rfl k (by omega) rfl rfl ?_
      intro W1 hya hba
      have HS1 := Lib.hid (HB0.out.drew.trans (hba.mono HB0.out.drew.size))
      have HYA := Lib.hid hya
      clear hya hba
      refine hK.out _ _ HS1.out ?_
      clear hK K'
      simp only [Act.put, List.setIfInBounds_toArray]
      refine hs_call (i := 2) (by kernel_rfl) rfl (fun K' hK => ?_)
      refine hs_make (by rfl) _ _ rfl 5 (by omega) rfl rfl ?_
      intro W2 hyb hbb
      have HS2 := Lib.hid (HS1.out.trans (hbb.mono HS1.out.size))
      have HYA2 := Lib.hid (HYA.out.below hbb)
      have HYB2 := Lib.hid hyb
      clear hyb hbb
      refine hK.out _ _ HS2.out ?_
      clear hK K'
      simp only [Act.put]
      refine hs_call (i := 3) (by kernel_rfl) rfl (fun K' hK => ?_)
      go_simp
      refine (C1.out _ _ _ HYA2.out HYB2.out).mono ?_
      rintro e W3 ⟨A, n, c, rfl, hy, _, _, hb⟩
      have hn := hy.len
      have HS3 := Lib.hid (HS2.out.trans (hb.mono HS2.out.size))
      have HN := Lib.hid hn
      clear hy hb hn
      refine hK.out _ _ HS3.out ?_
      clear hK K'
      refine hs_take (i := 4) (v := ?_) rfl rfl (by kernel_rfl) (by kernel_rfl) (by kernel_rfl) (fun _ _ _ h => h) (by rfl) HS3.out ?_ ?_
      rotate_left
      · intro W' hW'
        go_simp
        try with_reducible rfl
      simp only [Act.put, List.setIfInBounds_toArray, List.set_cons_zero, List.set_cons_succ]
      refine hs_take (i := 5) (v := ?_) rfl rfl (by kernel_rfl) (by kernel_rfl) (by kernel_rfl) (fun _ _ _ h => h) (by rfl) HS3.out ?_ ?_
      rotate_left
      · intro W' hW'
        go_simp
        try with_reducible rfl
      simp only [Act.put, List.setIfInBounds_toArray, List.set_cons_zero, List.set_cons_succ]
      refine hs_take (i := 6) (v := ?_) rfl rfl (by kernel_rfl) (by kernel_rfl) (by kernel_rfl) (fun _ _ _ h => h) (by rfl) HS3.out ?_ ?_
      rotate_left
      · intro W' hW'
        go_simp
        try with_reducible rfl
      simp only [Act.put, List.setIfInBounds_toArray, List.set_cons_zero, List.set_cons_succ]
      refine hs_take (i := 7) (v := ?_) rfl rfl (by kernel_rfl) (by kernel_rfl) (by kernel_rfl) (fun _ _ _ h => h) (by rfl) HS3.out ?_ ?_
      rotate_left
      · intro W' hW'
        go_simp
        try with_reducible rfl
      simp only [Act.put, List.setIfInBounds_toArray, List.set_cons_zero, List.set_cons_succ]
      refine hs_take (i := 8) (v := ?_) rfl rfl (by kernel_rfl) (by kernel_rfl) (by kernel_rfl) (fun _ _ _ h => h) (by rfl) HS3.out ?_ ?_
      rotate_left
      · intro W' hW'
        go_simp
        try with_reducible rfl
      simp only [Act.put, List.setIfInBounds_toArray, List.set_cons_zero, List.set_cons_succ]
      refine wpAnyH_done (by kernel_rfl) ?_ _
      go_wp2_with fail
      go_meet
      exact ⟨HS3, A, n, c, rfl, Lib.hid HN.out.symm, rfl⟩
    · intro K' hK
      refine hs_make (by rfl) _ _ rfl 5 (by omega) rfl rfl ?_
      intro W1 hya hba
      have HS1 := Lib.hid (HB0.out.drew.trans (hba.mono HB0.out.drew.size))
      have HYA := Lib.hid hya
      clear hya hba
      refine hK.out _ _ HS1.out ?_
      clear hK K'
      simp only [Act.put, List.setIfInBounds_toArray]
      refine hs_call (i := 1) (by kernel_rfl) rfl (fun K' hK => ?_)
      refine hs_make (by rfl) _ _ rfl k (by omega) rfl rfl ?_
      intro W2 hyb hbb
      have HS2 := Lib.hid (HS1.out.trans (hbb.mono HS1.out.size))
      have HYA2 := Lib.hid (HYA.out.below hbb)
      have HYB2 := Lib.hid hyb
      clear hyb hbb
      refine hK.out _ _ HS2.out ?_
      clear hK K'
      simp only [Act.put]
      refine hs_call (i := 3) (by kernel_rfl) rfl (fun K' hK => ?_)
      go_simp
      refine (C1.out _ _ _ HYB2.out HYA2.out).mono ?_
      rintro e W3 ⟨A, n, c, rfl, hy, _, _, hb⟩
      have hn := hy.len
      have HS3 := Lib.hid (HS2.out.trans (hb.mono HS2.out.size))
      have HN := Lib.hid hn
      clear hy hb hn
      refine hK.out _ _ HS3.out ?_
      clear hK K'
      refine hs_take (i := 4) (v := ?_) rfl rfl (by kernel_rfl) (by kernel_rfl) (by kernel_rfl) (fun _ _ _ h => h) (by rfl) HS3.out ?_ ?_
      rotate_left
      · intro W' hW'
        go_simp
        try with_reducible rfl
      simp only [Act.put, List.setIfInBounds_toArray, List.set_cons_zero, List.set_cons_succ]
      refine hs_take (i := 5) (v := ?_) rfl rfl (by kernel_rfl) (by kernel_rfl) (by kernel_rfl) (fun _ _ _ h => h) (by rfl) HS3.out ?_ ?_
      rotate_left
      · intro W' hW'
        go_simp
        try with_reducible rfl
      simp only [Act.put, List.setIfInBounds_toArray, List.set_cons_zero, List.set_cons_succ]
      refine hs_take (i := 6) (v := ?_) rfl rfl (by kernel_rfl) (by kernel_rfl) (by kernel_rfl) (fun _ _ _ h => h) (by rfl) HS3.out ?_ ?_
      rotate_left
      · intro W' hW'
        go_simp
        try with_reducible rfl
      simp only [Act.put, List.setIfInBounds_toArray, List.set_cons_zero, List.set_cons_succ]
      refine hs_take (i := 7) (v := ?_) rfl rfl (by kernel_rfl) (by kernel_rfl) (by kernel_rfl) (fun _ _ _ h => h) (by rfl) HS3.out ?_ ?_
      rotate_left
      · intro W' hW'
        go_simp
        try with_reducible rfl
      simp only [Act.put, List.setIfInBounds_toArray, List.set_cons_zero, List.set_cons_succ]
      refine hs_take (i := 8) (v := ?_) rfl rfl (by kernel_rfl) (by kernel_rfl) (by kernel_rfl) (fun _ _ _ h => h) (by rfl) HS3.out ?_ ?_
      rotate_left
      · intro W' hW'
        go_simp
        try with_reducible rfl
      simp only [Act.put, List.setIfInBounds_toArray, List.set_cons_zero, List.set_cons_succ]
      refine wpAnyH_done (by kernel_rfl) ?_ _
      go_wp2_with fail
      go_meet
      exact ⟨HS3, A, n, c, rfl, Lib.hid HN.out.symm, rfl⟩
  case rest =>
  obtain ⟨HB1, A4, n4, c4, rfl, hn4, rfl⟩ := hcut
  go_upto_region 3 with fail
  go_cut [6, 7] from 18 (fun sa sb wx => Hid (Below w.heap.size w wx) ∧ ∃ A n c, sa = .slice A n c ∧ Hid (n = L2.length) ∧ sb = .int .i64 8)
  case first =>
    refine wp_region_held (S := fun W' => Below w.heap.size w W') (by kernel_rfl) ?_
    refine hs_take (i := 1) (v := ?_) rfl rfl (by kernel_rfl) (by kernel_rfl) (by kernel_rfl) (fun _ _ _ h => h) (by rfl) HB1.out.drew ?_ ?_
    rotate_left
    · intro W' hW'
      go_simp
      try with_reducible rfl
    simp only [Act.put, List.setIfInBounds_toArray, List.set_cons_zero, List.set_cons_succ]
    refine hs_two (i := 0) (j := 2) (by kernel_rfl) rfl rfl ?_ ?_
    · intro K' hK
      refine hs_make (by rfl) _ _ rfl 5 (by omega) rfl rfl ?_
      intro W1 hya hba
      have HS1 := Lib.hid (HB1.out.drew.trans (hba.mono HB1.out.drew.size))
      have HYA := Lib.hid hya
      clear hya hba
      refine hK.out _ _ HS1.out ?_
      clear hK K'
      simp only [Act.put, List.setIfInBounds_toArray]
      refine hs_call (i := 2) (by kernel_rfl) rfl (fun K' hK => ?_)
      refine hs_make (by rfl) _ _ rfl k (by omega) rfl rfl ?_
      intro W2 hyb hbb
      have HS2 := Lib.hid (HS1.out.trans (hbb.mono HS1.out.size))
      have HYA2 := Lib.hid (HYA.out.below hbb)
      have HYB2 := Lib.hid hyb
      clear hyb hbb
      refine hK.out _ _ HS2.out ?_
      clear hK K'
      simp only [Act.put]
      refine hs_call (i := 3) (by kernel_rfl) rfl (fun K' hK => ?_)
      go_simp
      refine (C2.out _ _ _ HYA2.out HYB2.out).mono ?_
      rintro e W3 ⟨A, n, c, rfl, hy, _, _, hb⟩
      have hn := hy.len
      have HS3 := Lib.hid (HS2.out.trans (hb.mono HS2.out.size))
      have HN := Lib.hid hn
      clear hy hb hn
      refine hK.out _ _ HS3.out ?_
      clear hK K'
      refine hs_take (i := 4) (v := ?_) rfl rfl (by kernel_rfl) (by kernel_rfl) (by kernel_rfl) (fun _ _ _ h => h) (by rfl) HS3.out ?_ ?_
      rotate_left
      · intro W' hW'
        go_simp
        try with_reducible rfl
      simp only [Act.put, List.setIfInBounds_toArray, List.set_cons_zero, List.set_cons_succ]
      refine hs_take (i := 5) (v := ?_) rfl rfl (by kernel_rfl) (by kernel_rfl) (by kernel_rfl) (fun _ _ _ h => h) (by rfl) HS3.out ?_ ?_
      rotate_left
      · intro W' hW'
        go_simp
        try with_reducible rfl
      simp only [Act.put, List.setIfInBounds_toArray, List.set_cons_zero, List.set_cons_succ]
      refine hs_take (i := 6) (v := ?_) rfl rfl (by kernel_rfl) (by kernel_rfl) (by kernel_rfl) (fun _ _ _ h => h) (by rfl) HS3.out ?_ ?_
      rotate_left
      · intro W' hW'
        go_simp
        try with_reducible rfl
      simp only [Act.put, List.setIfInBounds_toArray, List.set_cons_zero, List.set_cons_succ]
      refine hs_take (i := 7) (v := ?_) rfl rfl (by kernel_rfl) (by kernel_rfl) (by kernel_rfl) (fun _ _ _ h => h) (by rfl) HS3.out ?_ ?_
      rotate_left
      · intro W' hW'
        go_simp
        try with_reducible rfl
      simp only [Act.put, List.setIfInBounds_toArray, List.set_cons_zero, List.set_cons_succ]
      refine hs_take (i := 8) (v := ?_) rfl rfl (by kernel_rfl) (by kernel_rfl) (by kernel_rfl) (fun _ _ _ h => h) (by rfl) HS3.out ?_ ?_
      rotate_left
      · intro W' hW'
        go_simp
        try with_reducible rfl
      simp only [Act.put, List.setIfInBounds_toArray, List.set_cons_zero, List.set_cons_succ]
      refine wpAnyH_done (by kernel_rfl) ?_ _
      go_wp2_with fail
      go_meet
      exact ⟨HS3, A, n, c, rfl, Lib.hid HN.out.symm, rfl⟩
    · intro K' hK
      refine hs_make (by rfl) _ _ rfl k (by omega) rfl rfl ?_
      intro W1 hya hba
      have HS1 := Lib.hid (HB1.out.drew.trans (hba.mono HB1.out.drew.size))
      have HYA := Lib.hid hya
      clear hya hba
      refine hK.out _ _ HS1.out ?_
      clear hK K'
      simp only [Act.put, List.setIfInBounds_toArray]
      refine hs_call (i := 0) (by kernel_rfl) rfl (fun K' hK => ?_)
      refine hs_make (by rfl) _ _ rfl 5 (by omega) rfl rfl ?_
      intro W2 hyb hbb
      have HS2 := Lib.hid (HS1.out.trans (hbb.mono HS1.out.size))
      have HYA2 := Lib.hid (HYA.out.below hbb)
      have HYB2 := Lib.hid hyb
      clear hyb hbb
      refine hK.out _ _ HS2.out ?_
      clear hK K'
      simp only [Act.put]
      refine hs_call (i := 3) (by kernel_rfl) rfl (fun K' hK => ?_)
      go_simp
      refine (C2.out _ _ _ HYB2.out HYA2.out).mono ?_
      rintro e W3 ⟨A, n, c, rfl, hy, _, _, hb⟩
      have hn := hy.len
      have HS3 := Lib.hid (HS2.out.trans (hb.mono HS2.out.size))
      have HN := Lib.hid hn
      clear hy hb hn
      refine hK.out _ _ HS3.out ?_
      clear hK K'
      refine hs_take (i := 4) (v := ?_) rfl rfl (by kernel_rfl) (by kernel_rfl) (by kernel_rfl) (fun _ _ _ h => h) (by rfl) HS3.out ?_ ?_
      rotate_left
      · intro W' hW'
        go_simp
        try with_reducible rfl
      simp only [Act.put, List.setIfInBounds_toArray, List.set_cons_zero, List.set_cons_succ]
      refine hs_take (i := 5) (v := ?_) rfl rfl (by kernel_rfl) (by kernel_rfl) (by kernel_rfl) (fun _ _ _ h => h) (by rfl) HS3.out ?_ ?_
      rotate_left
      · intro W' hW'
        go_simp
        try with_reducible rfl
      simp only [Act.put, List.setIfInBounds_toArray, List.set_cons_zero, List.set_cons_succ]
      refine hs_take (i := 6) (v := ?_) rfl rfl (by kernel_rfl) (by kernel_rfl) (by kernel_rfl) (fun _ _ _ h => h) (by rfl) HS3.out ?_ ?_
      rotate_left
      · intro W' hW'
        go_simp
        try with_reducible rfl
      simp only [Act.put, List.setIfInBounds_toArray, List.set_cons_zero, List.set_cons_succ]
      refine hs_take (i := 7) (v := ?_) rfl rfl (by kernel_rfl) (by kernel_rfl) (by kernel_rfl) (fun _ _ _ h => h) (by rfl) HS3.out ?_ ?_
      rotate_left
      · intro W' hW'
        go_simp
        try with_reducible rfl
      simp only [Act.put, List.setIfInBounds_toArray, List.set_cons_zero, List.set_cons_succ]
      refine hs_take (i := 8) (v := ?_) rfl rfl (by kernel_rfl) (by kernel_rfl) (by kernel_rfl) (fun _ _ _ h => h) (by rfl) HS3.out ?_ ?_
      rotate_left
      · intro W' hW'
        go_simp
        try with_reducible rfl
      simp only [Act.put, List.setIfInBounds_toArray, List.set_cons_zero, List.set_cons_succ]
      refine wpAnyH_done (by kernel_rfl) ?_ _
      go_wp2_with fail
      go_meet
      exact ⟨HS3, A, n, c, rfl, Lib.hid HN.out.symm, rfl⟩
  case rest =>
  obtain ⟨HB2, A6, n6, c6, rfl, hn6, rfl⟩ := hcut
  go_wp2_with (at_make; refine make_zeros rfl _ _ rfl k2 (by omega) rfl rfl ?_)
  intro w3 hy3 hb3
  have HY3 := Lib.hid hy3
  have HB3 := Lib.hid (HB2.out.trans (hb3.mono HB2.out.size))
  clear hy3 hb3
  go_wp2_with fail
  refine (C3.out _ _ HY3.out).mono ?_
  rintro e w4 ⟨A8, n8, c8, rfl, _, _, _, hb⟩
  have HB4 := Lib.hid (HB3.out.trans (hb.mono HB3.out.size))
  clear hb
  go_upto_region 5 with fail
  go_cut [10, 11] from 18 (fun sa sb wx => Hid (Below w.heap.size w wx) ∧ ∃ A n c, sa = .slice A n c ∧ Hid (n = L4.length) ∧ sb = .int .i64 8)
  case first =>
    refine wp_region_held (S := fun W' => Below w.heap.size w W') (by kernel_rfl) ?_
    refine hs_take (i := 0) (v := ?_) rfl rfl (by kernel_rfl) (by kernel_rfl) (by kernel_rfl) (fun _ _ _ h => h) (by rfl) HB4.out.drew ?_ ?_
    rotate_left
    · intro W' hW'
      go_simp
      try with_reducible rfl
    simp only [Act.put, List.setIfInBounds_toArray, List.set_cons_zero, List.set_cons_succ]
    refine hs_two (i := 1) (j := 2) (by kernel_rfl) rfl rfl ?_ ?_
    · intro K' hK
      refine hs_make (by rfl) _ _ rfl k (by omega) rfl rfl ?_
      intro W1 hya hba
      have HS1 := Lib.hid (HB4.out.drew.trans (hba.mono HB4.out.drew.size))
      have HYA := Lib.hid hya
      clear hya hba
      refine hK.out _ _ HS1.out ?_
      clear hK K'
      simp only [Act.put, List.setIfInBounds_toArray]
      refine hs_call (i := 2) (by kernel_rfl) rfl (fun K' hK => ?_)
      refine hs_make (by rfl) _ _ rfl 20 (by omega) rfl rfl ?_
      intro W2 hyb hbb
      have HS2 := Lib.hid (HS1.out.trans (hbb.mono HS1.out.size))
      have HYA2 := Lib.hid (HYA.out.below hbb)
      have HYB2 := Lib.hid hyb
      clear hyb hbb
      refine hK.out _ _ HS2.out ?_
      clear hK K'
      simp only [Act.put]
      refine hs_call (i := 3) (by kernel_rfl) rfl (fun K' hK => ?_)
      go_simp
      refine (C4.out _ _ _ HYA2.out HYB2.out).mono ?_
      rintro e W3 ⟨A, n, c, rfl, hy, _, _, hb⟩
      have hn := hy.len
      have HS3 := Lib.hid (HS2.out.trans (hb.mono HS2.out.size))
      have HN := Lib.hid hn
      clear hy hb hn
      refine hK.out _ _ HS3.out ?_
      clear hK K'
      refine hs_take (i := 4) (v := ?_) rfl rfl (by kernel_rfl) (by kernel_rfl) (by kernel_rfl) (fun _ _ _ h => h) (by rfl) HS3.out ?_ ?_
      rotate_left
      · intro W' hW'
        go_simp
        try with_reducible rfl
      simp only [Act.put, List.setIfInBounds_toArray, List.set_cons_zero, List.set_cons_succ]
      refine hs_take (i := 5) (v := ?_) rfl rfl (by kernel_rfl) (by kernel_rfl) (by kernel_rfl) (fun _ _ _ h => h) (by rfl) HS3.out ?_ ?_
      rotate_left
      · intro W' hW'
        go_simp
        try with_reducible rfl
      simp only [Act.put, List.setIfInBounds_toArray, List.set_cons_zero, List.set_cons_succ]
      refine hs_take (i := 6) (v := ?_) rfl rfl (by kernel_rfl) (by kernel_rfl) (by kernel_rfl) (fun _ _ _ h => h) (by rfl) HS3.out ?_ ?_
      rotate_left
      · intro W' hW'
        go_simp
        try with_reducible rfl
      simp only [Act.put, List.setIfInBounds_toArray, List.set_cons_zero, List.set_cons_succ]
      refine hs_take (i := 7) (v := ?_) rfl rfl (by kernel_rfl) (by kernel_rfl) (by kernel_rfl) (fun _ _ _ h => h) (by rfl) HS3.out ?_ ?_
      rotate_left
      · intro W' hW'
        go_simp
        try with_reducible rfl
      simp only [Act.put, List.setIfInBounds_toArray, List.set_cons_zero, List.set_cons_succ]
      refine hs_take (i := 8) (v := ?_) rfl rfl (by kernel_rfl) (by kernel_rfl) (by kernel_rfl) (fun _ _ _ h => h) (by rfl) HS3.out ?_ ?_
      rotate_left
      · intro W' hW'
        go_simp
        try with_reducible rfl
      simp only [Act.put, List.setIfInBounds_toArray, List.set_cons_zero, List.set_cons_succ]
      refine wpAnyH_done (by kernel_rfl) ?_ _
      go_wp2_with fail
      go_meet
      exact ⟨HS3, A, n, c, rfl, Lib.hid HN.out.symm, rfl⟩
    · intro K' hK
      refine hs_make (by rfl) _ _ rfl 20 (by omega) rfl rfl ?_
      intro W1 hya hba
      have HS1 := Lib.hid (HB4.out.drew.trans (hba.mono HB4.out.drew.size))
      have HYA := Lib.hid hya
      clear hya hba
      refine hK.out _ _ HS1.out ?_
      clear hK K'
      simp only [Act.put, List.setIfInBounds_toArray]
      refine hs_call (i := 1) (by kernel_rfl) rfl (fun K' hK => ?_)
      refine hs_make (by rfl) _ _ rfl k (by omega) rfl rfl ?_
      intro W2 hyb hbb
      have HS2 := Lib.hid (HS1.out.trans (hbb.mono HS1.out.size))
      have HYA2 := Lib.hid (HYA.out.below hbb)
      have HYB2 := Lib.hid hyb
      clear hyb hbb
      refine hK.out _ _ HS2.out ?_
      clear hK K'
      simp only [Act.put]
      refine hs_call (i := 3) (by kernel_rfl) rfl (fun K' hK => ?_)
      go_simp
      refine (C4.out _ _ _ HYB2.out HYA2.out).mono ?_
      rintro e W3 ⟨A, n, c, rfl, hy, _, _, hb⟩
      have hn := hy.len
      have HS3 := Lib.hid (HS2.out.trans (hb.mono HS2.out.size))
      have HN := Lib.hid hn
      clear hy hb hn
      refine hK.out _ _ HS3.out ?_
      clear hK K'
      refine hs_take (i := 4) (v := ?_) rfl rfl (by kernel_rfl) (by kernel_rfl) (by kernel_rfl) (fun _ _ _ h => h) (by rfl) HS3.out ?_ ?_
      rotate_left
      · intro W' hW'
        go_simp
        try with_reducible rfl
      simp only [Act.put, List.setIfInBounds_toArray, List.set_cons_zero, List.set_cons_succ]
      refine hs_take (i := 5) (v := ?_) rfl rfl (by kernel_rfl) (by kernel_rfl) (by kernel_rfl) (fun _ _ _ h => h) (by rfl) HS3.out ?_ ?_
      rotate_left
      · intro W' hW'
        go_simp
        try with_reducible rfl
      simp only [Act.put, List.setIfInBounds_toArray, List.set_cons_zero, List.set_cons_succ]
      refine hs_take (i := 6) (v := ?_) rfl rfl (by kernel_rfl) (by kernel_rfl) (by kernel_rfl) (fun _ _ _ h => h) (by rfl) HS3.out ?_ ?_
      rotate_left
      · intro W' hW'
        go_simp
        try with_reducible rfl
      simp only [Act.put, List.setIfInBounds_toArray, List.set_cons_zero, List.set_cons_succ]
      refine hs_take (i := 7) (v := ?_) rfl rfl (by kernel_rfl) (by kernel_rfl) (by kernel_rfl) (fun _ _ _ h => h) (by rfl) HS3.out ?_ ?_
      rotate_left
      · intro W' hW'
        go_simp
        try with_reducible rfl
      simp only [Act.put, List.setIfInBounds_toArray, List.set_cons_zero, List.set_cons_succ]
      refine hs_take (i := 8) (v := ?_) rfl rfl (by kernel_rfl) (by kernel_rfl) (by kernel_rfl) (fun _ _ _ h => h) (by rfl) HS3.out ?_ ?_
      rotate_left
      · intro W' hW'
        go_simp
        try with_reducible rfl
      simp only [Act.put, List.setIfInBounds_toArray, List.set_cons_zero, List.set_cons_succ]
      refine wpAnyH_done (by kernel_rfl) ?_ _
      go_wp2_with fail
      go_meet
      exact ⟨HS3, A, n, c, rfl, Lib.hid HN.out.symm, rfl⟩
  case rest =>
  obtain ⟨HB5, A10, n10, c10, rfl, hn10, rfl⟩ := hcut
  go_wp2_with (at_make; refine make_zeros rfl _ _ rfl k2 (by omega) rfl rfl ?_)
  intro w6 hy6 hb6
  have HY6 := Lib.hid hy6
  have HB6 := Lib.hid (HB5.out.trans (hb6.mono HB5.out.size))
  clear hy6 hb6
  go_wp2_with fail
  refine (C5.out _ _ HY6.out).mono ?_
  rintro e w7 ⟨A14, n14, c14, rfl, _, _, _, hb⟩
  have HB7 := Lib.hid (HB6.out.trans (hb.mono HB6.out.size))
  clear hb
  go_upto_region 11 with fail
  go_cut [16, 17] from 18 (fun sa sb wx => Hid (Below w.heap.size w wx) ∧ ∃ A n c, sa = .slice A n c ∧ Hid (n = L4.length) ∧ sb = .int .i64 8)
  case first =>
    refine wp_region_held (S := fun W' => Below w.heap.size w W') (by kernel_rfl) ?_
    refine hs_take (i := 0) (v := ?_) rfl rfl (by kernel_rfl) (by kernel_rfl) (by kernel_rfl) (fun _ _ _ h => h) (by rfl) HB7.out.drew ?_ ?_
    rotate_left
    · intro W' hW'
      go_simp
      try with_reducible rfl
    simp only [Act.put, List.setIfInBounds_toArray, List.set_cons_zero, List.set_cons_succ]
    refine hs_two (i := 1) (j := 2) (by kernel_rfl) rfl rfl ?_ ?_
    · intro K' hK
      refine hs_make (by rfl) _ _ rfl k (by omega) rfl rfl ?_
      intro W1 hya hba
      have HS1 := Lib.hid (HB7.out.drew.trans (hba.mono HB7.out.drew.size))
      have HYA := Lib.hid hya
      clear hya hba
      refine hK.out _ _ HS1.out ?_
      clear hK K'
      simp only [Act.put, List.setIfInBounds_toArray]
      refine hs_call (i := 2) (by kernel_rfl) rfl (fun K' hK => ?_)
      refine hs_make (by rfl) _ _ rfl 20 (by omega) rfl rfl ?_
      intro W2 hyb hbb
      have HS2 := Lib.hid (HS1.out.trans (hbb.mono HS1.out.size))
      have HYA2 := Lib.hid (HYA.out.below hbb)
      have HYB2 := Lib.hid hyb
      clear hyb hbb
      refine hK.out _ _ HS2.out ?_
      clear hK K'
      simp only [Act.put]
      refine hs_call (i := 3) (by kernel_rfl) rfl (fun K' hK => ?_)
      go_simp
      refine (C6.out _ _ _ HYA2.out HYB2.out).mono ?_
      rintro e W3 ⟨A, n, c, rfl, hy, _, _, hb⟩
      have hn := hy.len
      have HS3 := Lib.hid (HS2.out.trans (hb.mono HS2.out.size))
      have HN := Lib.hid hn
      clear hy hb hn
      refine hK.out _ _ HS3.out ?_
      clear hK K'
      refine hs_take (i := 4) (v := ?_) rfl rfl (by kernel_rfl) (by kernel_rfl) (by kernel_rfl) (fun _ _ _ h => h) (by rfl) HS3.out ?_ ?_
      rotate_left
      · intro W' hW'
        go_simp
        try with_reducible rfl
      simp only [Act.put, List.setIfInBounds_toArray, List.set_cons_zero, List.set_cons_succ]
      refine hs_take (i := 5) (v := ?_) rfl rfl (by kernel_rfl) (by kernel_rfl) (by kernel_rfl) (fun _ _ _ h => h) (by rfl) HS3.out ?_ ?_
      rotate_left
      · intro W' hW'
        go_simp
        try with_reducible rfl
      simp only [Act.put, List.setIfInBounds_toArray, List.set_cons_zero, List.set_cons_succ]
      refine hs_take (i := 6) (v := ?_) rfl rfl (by kernel_rfl) (by kernel_rfl) (by kernel_rfl) (fun _ _ _ h => h) (by rfl) HS3.out ?_ ?_
      rotate_left
      · intro W' hW'
        go_simp
        try with_reducible rfl
      simp only [Act.put, List.setIfInBounds_toArray, List.set_cons_zero, List.set_cons_succ]
      refine hs_take (i := 7) (v := ?_) rfl rfl (by kernel_rfl) (by kernel_rfl) (by kernel_rfl) (fun _ _ _ h => h) (by rfl) HS3.out ?_ ?_
      rotate_left
      · intro W' hW'
        go_simp
        try with_reducible rfl
      simp only [Act.put, List.setIfInBounds_toArray, List.set_cons_zero, List.set_cons_succ]
      refine hs_take (i := 8) (v := ?_) rfl rfl (by kernel_rfl) (by kernel_rfl) (by kernel_rfl) (fun _ _ _ h => h) (by rfl) HS3.out ?_ ?_
      rotate_left
      · intro W' hW'
        go_simp
        try with_reducible rfl
      simp only [Act.put, List.setIfInBounds_toArray, List.set_cons_zero, List.set_cons_succ]
      refine wpAnyH_done (by kernel_rfl) ?_ _
      go_wp2_with fail
      go_meet
      exact ⟨HS3, A, n, c, rfl, Lib.hid HN.out.symm, rfl⟩
    · intro K' hK
      refine hs_make (by rfl) _ _ rfl 20 (by omega) rfl rfl ?_
      intro W1 hya hba
      have HS1 := Lib.hid (HB7.out.drew.trans (hba.mono HB7.out.drew.size))
      have HYA := Lib.hid hya
      clear hya hba
      refine hK.out _ _ HS1.out ?_
      clear hK K'
      simp only [Act.put, List.setIfInBounds_toArray]
      refine hs_call (i := 1) (by kernel_rfl) rfl (fun K' hK => ?_)
      refine hs_make (by rfl) _ _ rfl k (by omega) rfl rfl ?_
      intro W2 hyb hbb
      have HS2 := Lib.hid (HS1.out.trans (hbb.mono HS1.out.size))
      have HYA2 := Lib.hid (HYA.out.below hbb)
      have HYB2 := Lib.hid hyb
      clear hyb hbb
      refine hK.out _ _ HS2.out ?_
      clear hK K'
      simp only [Act.put]
      refine hs_call (i := 3) (by kernel_rfl) rfl (fun K' hK => ?_)
      go_simp
      refine (C6.out _ _ _ HYB2.out HYA2.out).mono ?_
      rintro e W3 ⟨A, n, c, rfl, hy, _, _, hb⟩
      have hn := hy.len
      have HS3 := Lib.hid (HS2.out.trans (hb.mono HS2.out.size))
      have HN := Lib.hid hn
      clear hy hb hn
      refine hK.out _ _ HS3.out ?_
      clear hK K'
      refine hs_take (i := 4) (v := ?_) rfl rfl (by kernel_rfl) (by kernel_rfl) (by kernel_rfl) (fun _ _ _ h => h) (by rfl) HS3.out ?_ ?_
      rotate_left
      · intro W' hW'
        go_simp
        try with_reducible rfl
      simp only [Act.put, List.setIfInBounds_toArray, List.set_cons_zero, List.set_cons_succ]
      refine hs_take (i := 5) (v := ?_) rfl rfl (by kernel_rfl) (by kernel_rfl) (by kernel_rfl) (fun _ _ _ h => h) (by rfl) HS3.out ?_ ?_
      rotate_left
      · intro W' hW'
        go_simp
        try with_reducible rfl
      simp only [Act.put, List.setIfInBounds_toArray, List.set_cons_zero, List.set_cons_succ]
      refine hs_take (i := 6) (v := ?_) rfl rfl (by kernel_rfl) (by kernel_rfl) (by kernel_rfl) (fun _ _ _ h => h) (by rfl) HS3.out ?_ ?_
      rotate_left
      · intro W' hW'
        go_simp
        try with_reducible rfl
      simp only [Act.put, List.setIfInBounds_toArray, List.set_cons_zero, List.set_cons_succ]
      refine hs_take (i := 7) (v := ?_) rfl rfl (by kernel_rfl) (by kernel_rfl) (by kernel_rfl) (fun _ _ _ h => h) (by rfl) HS3.out ?_ ?_
      rotate_left
      · intro W' hW'
        go_simp
        try with_reducible rfl
      simp only [Act.put, List.setIfInBounds_toArray, List.set_cons_zero, List.set_cons_succ]
      refine hs_take (i := 8) (v := ?_) rfl rfl (by kernel_rfl) (by kernel_rfl) (by kernel_rfl) (fun _ _ _ h => h) (by rfl) HS3.out ?_ ?_
      rotate_left
      · intro W' hW'
        go_simp
        try with_reducible rfl
      simp only [Act.put, List.setIfInBounds_toArray, List.set_cons_zero, List.set_cons_succ]
      refine wpAnyH_done (by kernel_rfl) ?_ _
      go_wp2_with fail
      go_meet
      exact ⟨HS3, A, n, c, rfl, Lib.hid HN.out.symm, rfl⟩
  case rest =>
  obtain ⟨HB8, A16, n16, c16, rfl, hn16, rfl⟩ := hcut
  go_wp2_with fail
  refine (awake6_any _).mono ?_
  rintro e w9 ⟨rfl, hb⟩
  have HB9 := Lib.hid (HB8.out.trans (hb.mono HB8.out.size))
  clear hb
  go_wp2
  go_ret
  exact ⟨rfl, HB9.out⟩
theorem limits_law (q : Nat) (w : World) :
    Calls Try.prog 8 #[.int .u8 (q : Int)] w fun e w' => e = .returned (.bool true) ∧ Below w.heap.size w w' := by
  by_cases h : 1022 + q % 5 ≤ 1024
  · exact limits_ok q _ w rfl h
  · exact limits_big q _ w rfl (by omega)
end Go.Proofs.Ytgfcbgnlkiebhaa
