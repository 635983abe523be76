/- tagOf of the program. -/
import Derived.Test.YtgfcbgnlkiebhaaSpC
import Derived.Laws.Cover3
namespace Go.Proofs.Ytgfcbgnlkiebhaa
open Go.RowKit
set_option maxRecDepth 100000
/-- an array of the bytes of a word -/
def tagV (q : BitVec 64) : Value := .agg #[.int .u8 (wb q 0), .int .u8 (wb q 1), .int .u8 (wb q 2), .int .u8 (wb q 3), .int .u8 (wb q 4), .int .u8 (wb q 5), .int .u8 (wb q 6), .int .u8 (wb q 7)]
set_option maxHeartbeats 4000000 in
theorem tagE_more (x y : BitVec 64) (A : Option Addr) (a : Addr) (n c M d : Nat) (bs zs hs : List Int) (w : World) (hA : Bytes w A n bs) (hB : Bytes w (some a) (M + 8) zs) (hn : n ≤ 1024) (hM : M ≤ 1024) (hd : M + 8 ≤ d) (hd8 : ¬ d = 8) (hhs : zs.drop 8 = hs) (hy : zs.take 8 = wsBytes [y]) :
    Calls Try.prog 24 #[.int .u64 (val x), .slice A n c, .slice (some a) (M + 8) d] w fun e w' => e = .returned (tagV (tagW x y bs hs)) ∧ Below w.heap.size w w' := by
  have hI : (8 : Int) ≤ (d : Int) := by omega
  have hI2 : (8 : Int) ≤ (M : Int) + 8 := by omega
  have h8 : ¬ d < 8 := by omega
  have hd9 : ¬ d - 8 = 0 := by omega
  have hBh : Bytes w (some ⟨a.block, a.off + 8, none⟩) M hs := by
    have h := hB.drop (cap := d) 8 (by omega) (by omega)
    rw [if_neg (by omega), hhs] at h
    have e : a.add 8 = ⟨a.block, a.off + 8, none⟩ := by unfold Addr.add; rw [if_neg (by omega)]
    have h2 : Bytes w (some (a.add 8)) (M + 8 - 8) hs := h
    rw [e] at h2
    exact h2
  have hBn : Bytes w (some a) 8 (wsBytes [y]) := by
    have h := hB.take 8 (by omega)
    rw [hy] at h
    exact h
  have hl := hA.len
  have HA := Lib.hid hA
  have HBh := Lib.hid hBh
  have HBn := Lib.hid hBn
  obtain ⟨q, hq⟩ : ∃ q, tagW x y bs hs = q := ⟨_, rfl⟩
  have HQ : Hid (sipMac x 6 (wsBytes [y] ++ wsBytes [BitVec.ofInt 64 (n : Int)] ++ bs ++ hs) = q) := Lib.hid (by rw [← hq]; unfold tagW; rw [hl]; simp [wsBytes])
  have HG : Hid (∀ z ∈ wsBytes [y] ++ wsBytes [BitVec.ofInt 64 (n : Int)] ++ bs ++ hs, 0 ≤ z ∧ z ≤ 255) := Lib.hid (by
    intro z hz
    rcases List.mem_append.1 hz with h1 | h1
    · rcases List.mem_append.1 h1 with h2 | h2
      · rcases List.mem_append.1 h2 with h3 | h3
        · exact wsBytes_rng _ z h3
        · exact wsBytes_rng _ z h3
      · exact hA.rng z h2
    · exact hBh.rng z h1)
  rw [hq]
  clear hA hB hBh hBn hhs hy hl hq
  go_enter Try.func24, Try.ntmps24
  go_wp2_with fail
  have hc0 := Cs.new w 43 [.int .u8 0, .int .u8 0, .int .u8 0, .int .u8 0, .int .u8 0, .int .u8 0, .int .u8 0, .int .u8 0]
  have hb0 := (Below.refl w.heap.size w).alloc (Nat.le_refl _) (.cells #[.int .u8 0, .int .u8 0, .int .u8 0, .int .u8 0, .int .u8 0, .int .u8 0, .int .u8 0, .int .u8 0] 43)
  obtain ⟨w0, hw0⟩ : ∃ w0, w.alloc (.cells #[.int .u8 0, .int .u8 0, .int .u8 0, .int .u8 0, .int .u8 0, .int .u8 0, .int .u8 0, .int .u8 0] 43) = w0 := ⟨_, rfl⟩
  have hs0 : w0.heap.size = w.heap.size + 1 := by rw [← hw0]; exact Array.size_push _
  rw [hw0] at hc0 hb0 ⊢
  clear hw0
  refine wp_region_held (S := fun W' => Below w.heap.size w W') (by kernel_rfl) ?_
  refine hs_take (i := 0) (v := ?_) rfl rfl (by kernel_rfl) (by kernel_rfl) (by kernel_rfl) (fun _ _ _ h => h) (by rfl) hb0.drew ?_ ?_
  rotate_left
  · intro W' hW'
    go_simp
    try with_reducible rfl
  simp only [Act.put, List.setIfInBounds_toArray, List.set_cons_zero, List.set_cons_succ]
  refine hs_take (i := 1) (v := ?_) rfl rfl (by kernel_rfl) (by kernel_rfl) (by kernel_rfl) (fun _ _ _ h => h) (by rfl) hb0.drew ?_ ?_
  rotate_left
  · intro W' hW'
    go_simp
    try with_reducible rfl
  simp only [Act.put, List.setIfInBounds_toArray, List.set_cons_zero, List.set_cons_succ]
  refine hs_take (i := 2) (v := ?_) rfl rfl (by kernel_rfl) (by kernel_rfl) (by kernel_rfl) (fun _ _ _ h => h) (by rfl) hb0.drew ?_ ?_
  rotate_left
  · intro W' hW'
    go_simp
    try with_reducible rfl
  simp only [Act.put, List.setIfInBounds_toArray, List.set_cons_zero, List.set_cons_succ]
  refine hs_take (i := 3) (v := ?_) rfl rfl (by kernel_rfl) (by kernel_rfl) (by kernel_rfl) (fun _ _ _ h => h) (by rfl) hb0.drew ?_ ?_
  rotate_left
  · intro W' hW'
    go_simp
    try with_reducible rfl
  simp only [Act.put, List.setIfInBounds_toArray, List.set_cons_zero, List.set_cons_succ]
  refine hs_take (i := 4) (v := ?_) rfl rfl (by kernel_rfl) (by kernel_rfl) (by kernel_rfl) (fun _ _ _ h => h) (by rfl) hb0.drew ?_ ?_
  rotate_left
  · intro W' hW'
    go_simp
    try with_reducible rfl
  simp only [Act.put, List.setIfInBounds_toArray, List.set_cons_zero, List.set_cons_succ]
  refine hs_take (i := 5) (v := ?_) rfl rfl (by kernel_rfl) (by kernel_rfl) (by kernel_rfl) (fun _ _ _ h => h) (by rfl) hb0.drew ?_ ?_
  rotate_left
  · intro W' hW'
    go_simp
    try with_reducible rfl
  simp only [Act.put, List.setIfInBounds_toArray, List.set_cons_zero, List.set_cons_succ]
  refine wpAnyH_done (by kernel_rfl) ?_ _
  change Exit.then _ _ _ _ w0.drew
  obtain ⟨W1, hW1⟩ : ∃ W1, w0.drew = W1 := ⟨_, rfl⟩
  have hb1 : Below w.heap.size w W1 := by rw [← hW1]; exact hb0.drew
  have hc1 : Cs W1 w.heap.size 43 [.int .u8 0, .int .u8 0, .int .u8 0, .int .u8 0, .int .u8 0, .int .u8 0, .int .u8 0, .int .u8 0] := by rw [← hW1]; exact hc0.drew
  have hs1 : W1.heap.size = w.heap.size + 1 := by rw [← hW1]; exact hs0
  rw [hW1]
  clear hW1 hb0 hc0 hs0
  have HB1 := Lib.hid hb1
  have HC1 := Lib.hid hc1
  clear hb1 hc1
  have hnM1 : wrap64 (16 + (n : Int)) = 16 + (n : Int) := by unfold wrap64; omega
  have hnM2 : IntKind.i64.wrap (16 + (n : Int)) = 16 + (n : Int) := by rw [IntKind.wrap_i64]; omega
  have hnM3 : wrap64 (16 + (n : Int) + (M : Int)) = 16 + (n : Int) + (M : Int) := by unfold wrap64; omega
  have hnM4 : IntKind.i64.wrap (16 + (n : Int) + (M : Int)) = 16 + (n : Int) + (M : Int) := by rw [IntKind.wrap_i64]; omega
  obtain ⟨i0, hi, hz0, hz1, hz2⟩ := info_parts infoB
  obtain ⟨w2, hmk, hown2, hg2⟩ := run_make_own (P := Try.prog) W1 (w.heap.size + 1) 23 5 i0 (.int .u8 0) 1 Try.underlying23 hi hz0 hz1 .i64 .i64 (16 + n + M) (by rw [hz2]; omega) (by unfold maxLen; omega) (by omega)
  have hb2 : Below (w.heap.size + 1) W1 w2 := (Below.refl _ W1).grown hg2 (by omega) (by intro k hk; cases hk)
  rw [show ((16 + n + M : Nat) : Int) = 16 + (n : Int) + (M : Int) by omega] at hmk
  rw [hs1] at hmk hown2
  have hr2 := Row.of_own (zs := []) (by simpa [bv] using hown2)
  have hcs := HC1.out.below hb2 (by omega)
  have HR2 := Lib.hid hr2
  have HB2 := Lib.hid (HB1.out.trans (hb2.mono (by omega)))
  have HC2 := Lib.hid hcs
  have hs2 := hb2.size
  have HBn2 := Lib.hid (HBn.out.below HB2.out)
  clear hg2 hi hz0 hz1 hz2 hown2 hb2 hr2 hcs
  obtain ⟨T1, hT1⟩ : ∃ T1, wsBytes [y] = T1 := ⟨_, rfl⟩
  obtain ⟨T2, hT2⟩ : ∃ T2, wsBytes [BitVec.ofInt 64 (n : Int)] = T2 := ⟨_, rfl⟩
  obtain ⟨T3, hT3⟩ : ∃ T3, T1 ++ T2 = T3 := ⟨_, rfl⟩
  obtain ⟨T4, hT4⟩ : ∃ T4, T3 ++ bs = T4 := ⟨_, rfl⟩
  obtain ⟨T5, hT5⟩ : ∃ T5, T4 ++ hs = T5 := ⟨_, rfl⟩
  rw [hT1, hT2, hT3, hT4, hT5] at HQ HG
  rw [hT1] at HBn2
  have HT2 := Lib.hid hT2
  have HT3 := Lib.hid hT3
  have HT4 := Lib.hid hT4
  have HT5 := Lib.hid hT5
  have hnw : IntKind.u64.wrap (n : Int) = (n : Int) := by rw [IntKind.wrap_u64]; omega
  have hnv : (n : Int) = val (BitVec.ofInt 64 (n : Int)) := val_of (by omega) (by omega)
  have HNV := Lib.hid hnv
  clear hT1 hT2 hT3 hT4 hT5 hnv hnM1 hnM2
  go_wp2_with (at_builtin; refine app_row rfl _ _ rfl (w.heap.size + 1) _ 0 [] (some a) 8 d T1 HR2.out rfl HBn2.out rfl (by omega) (by omega) ?_)
  intro v3 w3 hr3 hb3
  try simp only [Nat.zero_add, List.nil_append] at hr3
  have HR3 := Lib.hid hr3
  have HC3 := Lib.hid (HC2.out.below hb3 (by omega))
  have HB3 := Lib.hid (HB2.out.trans (hb3.mono (by omega)))
  have hs3 := hb3.size
  have hW3 := Ws.one w3 (BitVec.ofInt 64 (n : Int))
  rw [← HNV.out] at hW3
  have HW3 := Lib.hid hW3
  clear hr3 hb3 hW3
  go_wp2_with fail
  refine (words_any (some ⟨w3.heap.size, 0, none⟩) 1 1 [BitVec.ofInt 64 (n : Int)] _ HW3.out (by omega)).mono ?_
  rintro e w4 ⟨v4, rfl, ho4, hb4⟩
  obtain ⟨A4, k4, rfl, _, _, hy4⟩ := own_bytes ho4 (wsBytes_rng _)
  rw [HT2.out] at hy4
  have HY4 := Lib.hid hy4
  have hg4 : Below w3.heap.size w3 w4 := ((Below.refl _ w3).alloc (Nat.le_refl _) (.cells #[.int .u64 (n : Int)] 22)).trans (hb4.mono (by simp))
  have HR4 := Lib.hid (HR3.out.below hg4)
  have HC4 := Lib.hid (HC3.out.below hg4 (by omega))
  have HB4 := Lib.hid (HB3.out.trans (hg4.mono (by omega)))
  have hs4 := hg4.size
  clear ho4 hb4 hy4 hg4
  go_wp2_with (at_builtin; refine app_row rfl _ _ rfl (w.heap.size + 1) _ 8 T1 A4 (8 * 1) k4 T2 HR4.out rfl HY4.out rfl (by omega) (by omega) ?_)
  intro v5 w5 hr5 hb5
  rw [HT3.out] at hr5
  have HR5 := Lib.hid hr5
  have HC5 := Lib.hid (HC4.out.below hb5 (by omega))
  have HB5 := Lib.hid (HB4.out.trans (hb5.mono (by omega)))
  have HA5 := Lib.hid (HA.out.below HB5.out)
  have hs5 := hb5.size
  clear hr5 hb5
  go_wp2_with (at_builtin; refine app_row rfl _ _ rfl (w.heap.size + 1) _ (8 + 8 * 1) T3 A n c bs HR5.out rfl HA5.out rfl (by omega) (by omega) ?_)
  intro v6 w6 hr6 hb6
  rw [HT4.out] at hr6
  have HR6 := Lib.hid hr6
  have HC6 := Lib.hid (HC5.out.below hb6 (by omega))
  have HB6 := Lib.hid (HB5.out.trans (hb6.mono (by omega)))
  have HH6 := Lib.hid (HBh.out.below HB6.out)
  have hs6 := hb6.size
  clear hr6 hb6
  go_wp2_with (at_builtin; refine app_row rfl _ _ rfl (w.heap.size + 1) _ (8 + 8 * 1 + n) T4 _ M (d - 8) hs HR6.out rfl HH6.out rfl (by omega) (by omega) ?_)
  intro v7 w7 hr7 hb7
  rw [HT5.out] at hr7
  obtain ⟨A7, k7, rfl, hk7, hm7, hy7⟩ := hr7.bytes HG.out
  have HY7 := Lib.hid hy7
  have HC7 := Lib.hid (HC6.out.below hb7 (by omega))
  have HB7 := Lib.hid (HB6.out.trans (hb7.mono (by omega)))
  have hs7 := hb7.size
  clear hr7 hb7 hy7
  go_wp2_with fail
  refine (mac_any x 6 A7 _ k7 _ w7 HY7.out hk7 hm7).mono ?_
  rintro e w8 ⟨rfl, hb8⟩
  rw [HQ.out]
  have HC8 := Lib.hid (HC7.out.below hb8 (by omega))
  have HB8 := Lib.hid (HB7.out.trans (hb8.mono (by omega)))
  have hs8 := hb8.size
  clear hb8
  go_wp2_with fail
  refine (words_any (some ⟨w8.heap.size, 0, none⟩) 1 1 [q] _ (Ws.one w8 q) (by omega)).mono ?_
  rintro e w9 ⟨v9, rfl, ho9, hb9⟩
  obtain ⟨g, k9, rfl, hg9', hk9, hm9, hcl, _⟩ := (Row.of_own ho9).slot (by omega)
  have hg9 : Below w8.heap.size w8 w9 := ((Below.refl _ w8).alloc (Nat.le_refl _) (.cells #[.int .u64 (val q)] 22)).trans (hb9.mono (by simp))
  have HC9 := Lib.hid (HC8.out.below hg9 (by omega))
  have HB9 := Lib.hid (HB8.out.trans (hg9.mono (by omega)))
  have c0 : w9.cell? ⟨g, 0, none⟩ = some (.int .u8 (wb q 0)) := hcl 0 (by omega)
  have c1 : w9.cell? ⟨g, 1, none⟩ = some (.int .u8 (wb q 1)) := hcl 1 (by omega)
  have c2 : w9.cell? ⟨g, 2, none⟩ = some (.int .u8 (wb q 2)) := hcl 2 (by omega)
  have c3 : w9.cell? ⟨g, 3, none⟩ = some (.int .u8 (wb q 3)) := hcl 3 (by omega)
  have c4 : w9.cell? ⟨g, 4, none⟩ = some (.int .u8 (wb q 4)) := hcl 4 (by omega)
  have c5 : w9.cell? ⟨g, 5, none⟩ = some (.int .u8 (wb q 5)) := hcl 5 (by omega)
  have c6 : w9.cell? ⟨g, 6, none⟩ = some (.int .u8 (wb q 6)) := hcl 6 (by omega)
  have c7 : w9.cell? ⟨g, 7, none⟩ = some (.int .u8 (wb q 7)) := hcl 7 (by omega)
  have f0 := HC9.out.free 0
  have e0 := HC9.out.cell 0
  have f1 := HC9.out.free 1
  have e1 := HC9.out.cell 1
  have f2 := HC9.out.free 2
  have e2 := HC9.out.cell 2
  have f3 := HC9.out.free 3
  have e3 := HC9.out.cell 3
  have f4 := HC9.out.free 4
  have e4 := HC9.out.cell 4
  have f5 := HC9.out.free 5
  have e5 := HC9.out.cell 5
  have f6 := HC9.out.free 6
  have e6 := HC9.out.cell 6
  have f7 := HC9.out.free 7
  have e7 := HC9.out.cell 7
  simp only [List.getElem?_cons_succ, List.getElem?_cons_zero] at e0 e1 e2 e3 e4 e5 e6 e7
  clear ho9 hb9 hg9 hcl
  have hat : ∀ W, (Instr.arrayAt 43 (.slice (some ⟨g, 0, none⟩) 8 k9)).run Try.prog W = .ok (.pointer (some ⟨g, 0, none⟩)) W := fun W => run_arrayAt W _ _ 8 _ 8 k9 Try.underlying43 (Nat.le_refl _)
  go_wp2
  have hfin := (((((((HC9.out.set_ 0 (.int .u8 (wb q 0))).set_ 1 (.int .u8 (wb q 1))).set_ 2 (.int .u8 (wb q 2))).set_ 3 (.int .u8 (wb q 3))).set_ 4 (.int .u8 (wb q 4))).set_ 5 (.int .u8 (wb q 5))).set_ 6 (.int .u8 (wb q 6))).set_ 7 (.int .u8 (wb q 7))
  simp only [List.set_cons_zero, List.set_cons_succ] at hfin
  have hbf := (((((((HB9.out.setCell (p := ⟨w.heap.size, 0, none⟩) (Nat.le_refl _) (.int .u8 (wb q 0))).setCell (p := ⟨w.heap.size, 1, none⟩) (Nat.le_refl _) (.int .u8 (wb q 1))).setCell (p := ⟨w.heap.size, 2, none⟩) (Nat.le_refl _) (.int .u8 (wb q 2))).setCell (p := ⟨w.heap.size, 3, none⟩) (Nat.le_refl _) (.int .u8 (wb q 3))).setCell (p := ⟨w.heap.size, 4, none⟩) (Nat.le_refl _) (.int .u8 (wb q 4))).setCell (p := ⟨w.heap.size, 5, none⟩) (Nat.le_refl _) (.int .u8 (wb q 5))).setCell (p := ⟨w.heap.size, 6, none⟩) (Nat.le_refl _) (.int .u8 (wb q 6))).setCell (p := ⟨w.heap.size, 7, none⟩) (Nat.le_refl _) (.int .u8 (wb q 7))
  generalize World.setCell _ ⟨w.heap.size, 7, none⟩ _ = WF at hfin hbf ⊢
  have r0 := hfin.cell 0
  have r1 := hfin.cell 1
  have r2 := hfin.cell 2
  have r3 := hfin.cell 3
  have r4 := hfin.cell 4
  have r5 := hfin.cell 5
  have r6 := hfin.cell 6
  have r7 := hfin.cell 7
  simp only [List.getElem?_cons_succ, List.getElem?_cons_zero] at r0 r1 r2 r3 r4 r5 r6 r7
  refine bodyPost_ret (v := tagV q) ?_ rfl ⟨rfl, hbf⟩
  clear f0 f1 f2 f3 f4 f5 f6 f7 e0 e1 e2 e3 e4 e5 e6 e7 c0 c1 c2 c3 c4 c5 c6 c7 hat
  unfold tagV
  simp [results, Try.results24, go_sem, r0, r1, r2, r3, r4, r5, r6, r7]
set_option maxHeartbeats 4000000 in
theorem tagE_full (x y : BitVec 64) (A : Option Addr) (a : Addr) (n c : Nat) (bs zs hs : List Int) (w : World) (hA : Bytes w A n bs) (hB : Bytes w (some a) 8 zs) (hn : n ≤ 1024) (hhs : zs.drop 8 = hs) (hy : zs.take 8 = wsBytes [y]) :
    Calls Try.prog 24 #[.int .u64 (val x), .slice A n c, .slice (some a) 8 8] w fun e w' => e = .returned (tagV (tagW x y bs hs)) ∧ Below w.heap.size w w' := by
  have hBh : Bytes w (some a) 0 hs := by
    have h := hB.drop (cap := 8) 8 (by omega) (by omega)
    rw [if_pos rfl, hhs] at h
    exact h
  have hBn : Bytes w (some a) 8 (wsBytes [y]) := by
    have h := hB.take 8 (by omega)
    rw [hy] at h
    exact h
  have hl := hA.len
  have HA := Lib.hid hA
  have HBh := Lib.hid hBh
  have HBn := Lib.hid hBn
  obtain ⟨q, hq⟩ : ∃ q, tagW x y bs hs = q := ⟨_, rfl⟩
  have HQ : Hid (sipMac x 6 (wsBytes [y] ++ wsBytes [BitVec.ofInt 64 (n : Int)] ++ bs ++ hs) = q) := Lib.hid (by rw [← hq]; unfold tagW; rw [hl]; simp [wsBytes])
  have HG : Hid (∀ z ∈ wsBytes [y] ++ wsBytes [BitVec.ofInt 64 (n : Int)] ++ bs ++ hs, 0 ≤ z ∧ z ≤ 255) := Lib.hid (by
    intro z hz
    rcases List.mem_append.1 hz with h1 | h1
    · rcases List.mem_append.1 h1 with h2 | h2
      · rcases List.mem_append.1 h2 with h3 | h3
        · exact wsBytes_rng _ z h3
        · exact wsBytes_rng _ z h3
      · exact hA.rng z h2
    · exact hBh.rng z h1)
  rw [hq]
  clear hA hB hBh hBn hhs hy hl hq
  go_enter Try.func24, Try.ntmps24
  go_wp2_with fail
  have hc0 := Cs.new w 43 [.int .u8 0, .int .u8 0, .int .u8 0, .int .u8 0, .int .u8 0, .int .u8 0, .int .u8 0, .int .u8 0]
  have hb0 := (Below.refl w.heap.size w).alloc (Nat.le_refl _) (.cells #[.int .u8 0, .int .u8 0, .int .u8 0, .int .u8 0, .int .u8 0, .int .u8 0, .int .u8 0, .int .u8 0] 43)
  obtain ⟨w0, hw0⟩ : ∃ w0, w.alloc (.cells #[.int .u8 0, .int .u8 0, .int .u8 0, .int .u8 0, .int .u8 0, .int .u8 0, .int .u8 0, .int .u8 0] 43) = w0 := ⟨_, rfl⟩
  have hs0 : w0.heap.size = w.heap.size + 1 := by rw [← hw0]; exact Array.size_push _
  rw [hw0] at hc0 hb0 ⊢
  clear hw0
  refine wp_region_held (S := fun W' => Below w.heap.size w W') (by kernel_rfl) ?_
  refine hs_take (i := 0) (v := ?_) rfl rfl (by kernel_rfl) (by kernel_rfl) (by kernel_rfl) (fun _ _ _ h => h) (by rfl) hb0.drew ?_ ?_
  rotate_left
  · intro W' hW'
    go_simp
    try with_reducible rfl
  simp only [Act.put, List.setIfInBounds_toArray, List.set_cons_zero, List.set_cons_succ]
  refine hs_take (i := 1) (v := ?_) rfl rfl (by kernel_rfl) (by kernel_rfl) (by kernel_rfl) (fun _ _ _ h => h) (by rfl) hb0.drew ?_ ?_
  rotate_left
  · intro W' hW'
    go_simp
    try with_reducible rfl
  simp only [Act.put, List.setIfInBounds_toArray, List.set_cons_zero, List.set_cons_succ]
  refine hs_take (i := 2) (v := ?_) rfl rfl (by kernel_rfl) (by kernel_rfl) (by kernel_rfl) (fun _ _ _ h => h) (by rfl) hb0.drew ?_ ?_
  rotate_left
  · intro W' hW'
    go_simp
    try with_reducible rfl
  simp only [Act.put, List.setIfInBounds_toArray, List.set_cons_zero, List.set_cons_succ]
  refine hs_take (i := 3) (v := ?_) rfl rfl (by kernel_rfl) (by kernel_rfl) (by kernel_rfl) (fun _ _ _ h => h) (by rfl) hb0.drew ?_ ?_
  rotate_left
  · intro W' hW'
    go_simp
    try with_reducible rfl
  simp only [Act.put, List.setIfInBounds_toArray, List.set_cons_zero, List.set_cons_succ]
  refine hs_take (i := 4) (v := ?_) rfl rfl (by kernel_rfl) (by kernel_rfl) (by kernel_rfl) (fun _ _ _ h => h) (by rfl) hb0.drew ?_ ?_
  rotate_left
  · intro W' hW'
    go_simp
    try with_reducible rfl
  simp only [Act.put, List.setIfInBounds_toArray, List.set_cons_zero, List.set_cons_succ]
  refine hs_take (i := 5) (v := ?_) rfl rfl (by kernel_rfl) (by kernel_rfl) (by kernel_rfl) (fun _ _ _ h => h) (by rfl) hb0.drew ?_ ?_
  rotate_left
  · intro W' hW'
    go_simp
    try with_reducible rfl
  simp only [Act.put, List.setIfInBounds_toArray, List.set_cons_zero, List.set_cons_succ]
  refine wpAnyH_done (by kernel_rfl) ?_ _
  change Exit.then _ _ _ _ w0.drew
  obtain ⟨W1, hW1⟩ : ∃ W1, w0.drew = W1 := ⟨_, rfl⟩
  have hb1 : Below w.heap.size w W1 := by rw [← hW1]; exact hb0.drew
  have hc1 : Cs W1 w.heap.size 43 [.int .u8 0, .int .u8 0, .int .u8 0, .int .u8 0, .int .u8 0, .int .u8 0, .int .u8 0, .int .u8 0] := by rw [← hW1]; exact hc0.drew
  have hs1 : W1.heap.size = w.heap.size + 1 := by rw [← hW1]; exact hs0
  rw [hW1]
  clear hW1 hb0 hc0 hs0
  have HB1 := Lib.hid hb1
  have HC1 := Lib.hid hc1
  clear hb1 hc1
  have hnM1 : wrap64 (16 + (n : Int)) = 16 + (n : Int) := by unfold wrap64; omega
  have hnM2 : IntKind.i64.wrap (16 + (n : Int)) = 16 + (n : Int) := by rw [IntKind.wrap_i64]; omega
  obtain ⟨i0, hi, hz0, hz1, hz2⟩ := info_parts infoB
  obtain ⟨w2, hmk, hown2, hg2⟩ := run_make_own (P := Try.prog) W1 (w.heap.size + 1) 23 5 i0 (.int .u8 0) 1 Try.underlying23 hi hz0 hz1 .i64 .i64 (16 + n) (by rw [hz2]; omega) (by unfold maxLen; omega) (by omega)
  have hb2 : Below (w.heap.size + 1) W1 w2 := (Below.refl _ W1).grown hg2 (by omega) (by intro k hk; cases hk)
  rw [show ((16 + n : Nat) : Int) = 16 + (n : Int) by omega] at hmk
  rw [hs1] at hmk hown2
  have hr2 := Row.of_own (zs := []) (by simpa [bv] using hown2)
  have hcs := HC1.out.below hb2 (by omega)
  have HR2 := Lib.hid hr2
  have HB2 := Lib.hid (HB1.out.trans (hb2.mono (by omega)))
  have HC2 := Lib.hid hcs
  have hs2 := hb2.size
  have HBn2 := Lib.hid (HBn.out.below HB2.out)
  clear hg2 hi hz0 hz1 hz2 hown2 hb2 hr2 hcs
  obtain ⟨T1, hT1⟩ : ∃ T1, wsBytes [y] = T1 := ⟨_, rfl⟩
  obtain ⟨T2, hT2⟩ : ∃ T2, wsBytes [BitVec.ofInt 64 (n : Int)] = T2 := ⟨_, rfl⟩
  obtain ⟨T3, hT3⟩ : ∃ T3, T1 ++ T2 = T3 := ⟨_, rfl⟩
  obtain ⟨T4, hT4⟩ : ∃ T4, T3 ++ bs = T4 := ⟨_, rfl⟩
  obtain ⟨T5, hT5⟩ : ∃ T5, T4 ++ hs = T5 := ⟨_, rfl⟩
  rw [hT1, hT2, hT3, hT4, hT5] at HQ HG
  rw [hT1] at HBn2
  have HT2 := Lib.hid hT2
  have HT3 := Lib.hid hT3
  have HT4 := Lib.hid hT4
  have HT5 := Lib.hid hT5
  have hnw : IntKind.u64.wrap (n : Int) = (n : Int) := by rw [IntKind.wrap_u64]; omega
  have hnv : (n : Int) = val (BitVec.ofInt 64 (n : Int)) := val_of (by omega) (by omega)
  have HNV := Lib.hid hnv
  clear hT1 hT2 hT3 hT4 hT5 hnv
  go_wp2_with (at_builtin; refine app_row rfl _ _ rfl (w.heap.size + 1) _ 0 [] (some a) 8 8 T1 HR2.out rfl HBn2.out rfl (by omega) (by omega) ?_)
  intro v3 w3 hr3 hb3
  try simp only [Nat.zero_add, List.nil_append] at hr3
  have HR3 := Lib.hid hr3
  have HC3 := Lib.hid (HC2.out.below hb3 (by omega))
  have HB3 := Lib.hid (HB2.out.trans (hb3.mono (by omega)))
  have hs3 := hb3.size
  have hW3 := Ws.one w3 (BitVec.ofInt 64 (n : Int))
  rw [← HNV.out] at hW3
  have HW3 := Lib.hid hW3
  clear hr3 hb3 hW3
  go_wp2_with fail
  refine (words_any (some ⟨w3.heap.size, 0, none⟩) 1 1 [BitVec.ofInt 64 (n : Int)] _ HW3.out (by omega)).mono ?_
  rintro e w4 ⟨v4, rfl, ho4, hb4⟩
  obtain ⟨A4, k4, rfl, _, _, hy4⟩ := own_bytes ho4 (wsBytes_rng _)
  rw [HT2.out] at hy4
  have HY4 := Lib.hid hy4
  have hg4 : Below w3.heap.size w3 w4 := ((Below.refl _ w3).alloc (Nat.le_refl _) (.cells #[.int .u64 (n : Int)] 22)).trans (hb4.mono (by simp))
  have HR4 := Lib.hid (HR3.out.below hg4)
  have HC4 := Lib.hid (HC3.out.below hg4 (by omega))
  have HB4 := Lib.hid (HB3.out.trans (hg4.mono (by omega)))
  have hs4 := hg4.size
  clear ho4 hb4 hy4 hg4
  go_wp2_with (at_builtin; refine app_row rfl _ _ rfl (w.heap.size + 1) _ 8 T1 A4 (8 * 1) k4 T2 HR4.out rfl HY4.out rfl (by omega) (by omega) ?_)
  intro v5 w5 hr5 hb5
  rw [HT3.out] at hr5
  have HR5 := Lib.hid hr5
  have HC5 := Lib.hid (HC4.out.below hb5 (by omega))
  have HB5 := Lib.hid (HB4.out.trans (hb5.mono (by omega)))
  have HA5 := Lib.hid (HA.out.below HB5.out)
  have hs5 := hb5.size
  clear hr5 hb5
  go_wp2_with (at_builtin; refine app_row rfl _ _ rfl (w.heap.size + 1) _ (8 + 8 * 1) T3 A n c bs HR5.out rfl HA5.out rfl (by omega) (by omega) ?_)
  intro v6 w6 hr6 hb6
  rw [HT4.out] at hr6
  have HR6 := Lib.hid hr6
  have HC6 := Lib.hid (HC5.out.below hb6 (by omega))
  have HB6 := Lib.hid (HB5.out.trans (hb6.mono (by omega)))
  have HH6 := Lib.hid (HBh.out.below HB6.out)
  have hs6 := hb6.size
  clear hr6 hb6
  go_wp2_with (at_builtin; refine app_row rfl _ _ rfl (w.heap.size + 1) _ (8 + 8 * 1 + n) T4 _ 0 0 hs HR6.out rfl HH6.out rfl (by omega) (by omega) ?_)
  intro v7 w7 hr7 hb7
  rw [HT5.out] at hr7
  obtain ⟨A7, k7, rfl, hk7, hm7, hy7⟩ := hr7.bytes HG.out
  have HY7 := Lib.hid hy7
  have HC7 := Lib.hid (HC6.out.below hb7 (by omega))
  have HB7 := Lib.hid (HB6.out.trans (hb7.mono (by omega)))
  have hs7 := hb7.size
  clear hr7 hb7 hy7
  go_wp2_with fail
  refine (mac_any x 6 A7 _ k7 _ w7 HY7.out hk7 hm7).mono ?_
  rintro e w8 ⟨rfl, hb8⟩
  rw [HQ.out]
  have HC8 := Lib.hid (HC7.out.below hb8 (by omega))
  have HB8 := Lib.hid (HB7.out.trans (hb8.mono (by omega)))
  have hs8 := hb8.size
  clear hb8
  go_wp2_with fail
  refine (words_any (some ⟨w8.heap.size, 0, none⟩) 1 1 [q] _ (Ws.one w8 q) (by omega)).mono ?_
  rintro e w9 ⟨v9, rfl, ho9, hb9⟩
  obtain ⟨g, k9, rfl, hg9', hk9, hm9, hcl, _⟩ := (Row.of_own ho9).slot (by omega)
  have hg9 : Below w8.heap.size w8 w9 := ((Below.refl _ w8).alloc (Nat.le_refl _) (.cells #[.int .u64 (val q)] 22)).trans (hb9.mono (by simp))
  have HC9 := Lib.hid (HC8.out.below hg9 (by omega))
  have HB9 := Lib.hid (HB8.out.trans (hg9.mono (by omega)))
  have c0 : w9.cell? ⟨g, 0, none⟩ = some (.int .u8 (wb q 0)) := hcl 0 (by omega)
  have c1 : w9.cell? ⟨g, 1, none⟩ = some (.int .u8 (wb q 1)) := hcl 1 (by omega)
  have c2 : w9.cell? ⟨g, 2, none⟩ = some (.int .u8 (wb q 2)) := hcl 2 (by omega)
  have c3 : w9.cell? ⟨g, 3, none⟩ = some (.int .u8 (wb q 3)) := hcl 3 (by omega)
  have c4 : w9.cell? ⟨g, 4, none⟩ = some (.int .u8 (wb q 4)) := hcl 4 (by omega)
  have c5 : w9.cell? ⟨g, 5, none⟩ = some (.int .u8 (wb q 5)) := hcl 5 (by omega)
  have c6 : w9.cell? ⟨g, 6, none⟩ = some (.int .u8 (wb q 6)) := hcl 6 (by omega)
  have c7 : w9.cell? ⟨g, 7, none⟩ = some (.int .u8 (wb q 7)) := hcl 7 (by omega)
  have f0 := HC9.out.free 0
  have e0 := HC9.out.cell 0
  have f1 := HC9.out.free 1
  have e1 := HC9.out.cell 1
  have f2 := HC9.out.free 2
  have e2 := HC9.out.cell 2
  have f3 := HC9.out.free 3
  have e3 := HC9.out.cell 3
  have f4 := HC9.out.free 4
  have e4 := HC9.out.cell 4
  have f5 := HC9.out.free 5
  have e5 := HC9.out.cell 5
  have f6 := HC9.out.free 6
  have e6 := HC9.out.cell 6
  have f7 := HC9.out.free 7
  have e7 := HC9.out.cell 7
  simp only [List.getElem?_cons_succ, List.getElem?_cons_zero] at e0 e1 e2 e3 e4 e5 e6 e7
  clear ho9 hb9 hg9 hcl
  have hat : ∀ W, (Instr.arrayAt 43 (.slice (some ⟨g, 0, none⟩) 8 k9)).run Try.prog W = .ok (.pointer (some ⟨g, 0, none⟩)) W := fun W => run_arrayAt W _ _ 8 _ 8 k9 Try.underlying43 (Nat.le_refl _)
  go_wp2
  have hfin := (((((((HC9.out.set_ 0 (.int .u8 (wb q 0))).set_ 1 (.int .u8 (wb q 1))).set_ 2 (.int .u8 (wb q 2))).set_ 3 (.int .u8 (wb q 3))).set_ 4 (.int .u8 (wb q 4))).set_ 5 (.int .u8 (wb q 5))).set_ 6 (.int .u8 (wb q 6))).set_ 7 (.int .u8 (wb q 7))
  simp only [List.set_cons_zero, List.set_cons_succ] at hfin
  have hbf := (((((((HB9.out.setCell (p := ⟨w.heap.size, 0, none⟩) (Nat.le_refl _) (.int .u8 (wb q 0))).setCell (p := ⟨w.heap.size, 1, none⟩) (Nat.le_refl _) (.int .u8 (wb q 1))).setCell (p := ⟨w.heap.size, 2, none⟩) (Nat.le_refl _) (.int .u8 (wb q 2))).setCell (p := ⟨w.heap.size, 3, none⟩) (Nat.le_refl _) (.int .u8 (wb q 3))).setCell (p := ⟨w.heap.size, 4, none⟩) (Nat.le_refl _) (.int .u8 (wb q 4))).setCell (p := ⟨w.heap.size, 5, none⟩) (Nat.le_refl _) (.int .u8 (wb q 5))).setCell (p := ⟨w.heap.size, 6, none⟩) (Nat.le_refl _) (.int .u8 (wb q 6))).setCell (p := ⟨w.heap.size, 7, none⟩) (Nat.le_refl _) (.int .u8 (wb q 7))
  generalize World.setCell _ ⟨w.heap.size, 7, none⟩ _ = WF at hfin hbf ⊢
  have r0 := hfin.cell 0
  have r1 := hfin.cell 1
  have r2 := hfin.cell 2
  have r3 := hfin.cell 3
  have r4 := hfin.cell 4
  have r5 := hfin.cell 5
  have r6 := hfin.cell 6
  have r7 := hfin.cell 7
  simp only [List.getElem?_cons_succ, List.getElem?_cons_zero] at r0 r1 r2 r3 r4 r5 r6 r7
  refine bodyPost_ret (v := tagV q) ?_ rfl ⟨rfl, hbf⟩
  clear f0 f1 f2 f3 f4 f5 f6 f7 e0 e1 e2 e3 e4 e5 e6 e7 c0 c1 c2 c3 c4 c5 c6 c7 hat
  unfold tagV
  simp [results, Try.results24, go_sem, r0, r1, r2, r3, r4, r5, r6, r7]
end Go.Proofs.Ytgfcbgnlkiebhaa
