/- DecodeSignature of the program. -/
import Derived.Test.YthgahjihgoiklaaTkX
namespace Go.Proofs.Ythgahjihgoiklaa
open Go.RowKit
set_option maxRecDepth 100000

theorem words_read' (A : Option Addr) (N n c : Nat) (zs : List Int) (w : World) (hz : Bytes w A n zs) (hn : n = 8 * N) (hc : n ≤ c) (hN : N ≤ 1000) :
    Calls Try.prog 60 #[.slice A n c] w fun e w' => ∃ v, e = .returned v ∧ w'.ownsRow w.heap.size 22 1 v N (wv (rdWs zs N)) ∧ Below w.heap.size w w' := by
  subst hn
  exact words_read A N c zs w hz hc hN
/-- word k of the bytes behind the first o -/
def wordAt (zs : List Int) (o k : Nat) : BitVec 64 := rdF ((zs.drop (o + 8 * k)).take 8) 8
def wordsAt (zs : List Int) (o N : Nat) : List (BitVec 64) := (List.range N).map (wordAt zs o)
theorem rdWs_drop (zs : List Int) (o N : Nat) : rdWs (zs.drop o) N = wordsAt zs o N := by
  unfold rdWs wordsAt
  refine List.map_congr_left fun k _ => ?_
  unfold wordAt chunkB
  rw [List.drop_drop]
theorem rdWs_take (zs : List Int) (M N : Nat) (h : 8 * N ≤ M) : rdWs (zs.take M) N = rdWs zs N := by
  unfold rdWs
  refine List.map_congr_left fun k hk => ?_
  have hk' : k < N := by simpa using hk
  unfold chunkB
  rw [List.drop_take, List.take_take, Nat.min_eq_left (by omega)]
theorem dec_len (A : Option Addr) (n c : Nat) (w : World) (hn : n < 2) :
    Calls Try.prog 43 #[.slice A n c] w fun e w' => e = .returned (.tuple #[.agg #[.int .i64 0, .slice none 0 0, .slice none 0 0], .int .i64 2]) ∧ Below w.heap.size w w' := by
  have hnI : (n : Int) < 2 := by omega
  go_enter Try.func43, Try.ntmps43
  go_wp2
  exact bodyPost_ret (v := .tuple #[.agg #[.int .i64 0, .slice none 0 0, .slice none 0 0], .int .i64 2]) (by simp [results, Try.results43, go_sem]) rfl ⟨rfl, (Below.refl _ _).alloc (Nat.le_refl _) _⟩
set_option maxHeartbeats 2000000 in
theorem dec_leaf (a : Addr) (n c : Nat) (z0 z1 : Int) (w : World) (hn : 2 ≤ n) (hc : n ≤ c) (hc0 : w.cell? a = some (.int .u8 z0)) (hc1 : w.cell? (a.add 1) = some (.int .u8 z1)) (h0 : 0 ≤ z0 ∧ z0 ≤ 255) (h1 : 0 ≤ z1 ∧ z1 ≤ 255) (hh : leafB z1 z0 = false) :
    Calls Try.prog 43 #[.slice (some a) n c] w fun e w' => e = .returned (.tuple #[.agg #[.int .i64 0, .slice none 0 0, .slice none 0 0], .int .i64 2]) ∧ Below w.heap.size w w' := by
  have hnI : ¬ (n : Int) < 2 := by omega
  have hn0 : (0 : Int) < (n : Int) := by omega
  have hn1 : (1 : Int) < (n : Int) := by omega
  have hn0' : 0 < n := by omega
  have hn1' : 1 < n := by omega
  have hnc : ¬ (n : Int) < 2 := by omega
  have hn2 : (2 : Int) ≤ (n : Int) := by omega
  have hcI : (n : Int) ≤ (c : Int) := by omega
  have hw0 : wrap64 z0 = z0 := by unfold wrap64; omega
  have hw1 : wrap64 z1 = z1 := by unfold wrap64; omega
  have hi0 : IntKind.i64.wrap z0 = z0 := by rw [IntKind.wrap_i64]; omega
  have hi1 : IntKind.i64.wrap z1 = z1 := by rw [IntKind.wrap_i64]; omega
  have HC0 := Lib.hid hc0
  have HC1 := Lib.hid hc1
  have HB0 := Lib.hid ((Below.refl w.heap.size w).alloc (Nat.le_refl _) (.cells #[.int .i64 0, .slice none 0 0, .slice none 0 0] 32))
  have HH := Lib.hid hh
  clear hh
  clear hc0 hc1
  go_enter Try.func43, Try.ntmps43
  go_wp2_with fail
  refine wp_region_held (S := fun W => Below w.heap.size w W) (by kernel_rfl) ?_
  refine heldS_take (i := 0) (v := ?_) rfl rfl (by kernel_rfl) (by kernel_rfl) (by kernel_rfl) (fun _ _ _ h => h) (by rfl) HB0.out.drew ?_ ?_
  rotate_left
  · intro W' hW'
    go_simp
    try with_reducible rfl
  simp only [Act.put, List.setIfInBounds_toArray, List.set_cons_zero, List.set_cons_succ]
  refine heldS_take (i := 1) (v := ?_) rfl rfl (by kernel_rfl) (by kernel_rfl) (by kernel_rfl) (fun _ _ _ h => h) (by rfl) HB0.out.drew ?_ ?_
  rotate_left
  · intro W' hW'
    go_simp
    try with_reducible rfl
  simp only [Act.put, List.setIfInBounds_toArray, List.set_cons_zero, List.set_cons_succ]
  refine heldS_take (i := 2) (v := ?_) rfl rfl (by kernel_rfl) (by kernel_rfl) (by kernel_rfl) (fun _ _ _ h => h) (by rfl) HB0.out.drew ?_ ?_
  rotate_left
  · intro W' hW'
    have e0 := (hW'.cell (cell_in HC0.out)).trans HC0.out
    go_simp
    try with_reducible rfl
  simp only [Act.put, List.setIfInBounds_toArray, List.set_cons_zero, List.set_cons_succ]
  refine heldS_take (i := 3) (v := ?_) rfl rfl (by kernel_rfl) (by kernel_rfl) (by kernel_rfl) (fun _ _ _ h => h) (by rfl) HB0.out.drew ?_ ?_
  rotate_left
  · intro W' hW'
    go_simp
    try with_reducible rfl
  simp only [Act.put, List.setIfInBounds_toArray, List.set_cons_zero, List.set_cons_succ]
  refine heldS_take (i := 4) (v := ?_) rfl rfl (by kernel_rfl) (by kernel_rfl) (by kernel_rfl) (fun _ _ _ h => h) (by rfl) HB0.out.drew ?_ ?_
  rotate_left
  · intro W' hW'
    go_simp
    try with_reducible rfl
  simp only [Act.put, List.setIfInBounds_toArray, List.set_cons_zero, List.set_cons_succ]
  refine heldS_take (i := 5) (v := ?_) rfl rfl (by kernel_rfl) (by kernel_rfl) (by kernel_rfl) (fun _ _ _ h => h) (by rfl) HB0.out.drew ?_ ?_
  rotate_left
  · intro W' hW'
    go_simp
    try with_reducible rfl
  simp only [Act.put, List.setIfInBounds_toArray, List.set_cons_zero, List.set_cons_succ]
  refine heldS_take (i := 6) (v := ?_) rfl rfl (by kernel_rfl) (by kernel_rfl) (by kernel_rfl) (fun _ _ _ h => h) (by rfl) HB0.out.drew ?_ ?_
  rotate_left
  · intro W' hW'
    have e1 : W'.cell? ⟨a.block, a.off + 1, none⟩ = some (.int .u8 z1) := (hW'.cell (cell_in HC1.out)).trans HC1.out
    go_simp
    try with_reducible rfl
  simp only [Act.put, List.setIfInBounds_toArray, List.set_cons_zero, List.set_cons_succ]
  refine heldS_take (i := 7) (v := ?_) rfl rfl (by kernel_rfl) (by kernel_rfl) (by kernel_rfl) (fun _ _ _ h => h) (by rfl) HB0.out.drew ?_ ?_
  rotate_left
  · intro W' hW'
    go_simp
    try with_reducible rfl
  simp only [Act.put, List.setIfInBounds_toArray, List.set_cons_zero, List.set_cons_succ]
  refine heldS_take (i := 8) (v := ?_) rfl rfl (by kernel_rfl) (by kernel_rfl) (by kernel_rfl) (fun _ _ _ h => h) (by rfl) HB0.out.drew ?_ ?_
  rotate_left
  · intro W' hW'
    go_simp
    try with_reducible rfl
  simp only [Act.put, List.setIfInBounds_toArray, List.set_cons_zero, List.set_cons_succ]
  refine heldS_take (i := 9) (v := ?_) rfl rfl (by kernel_rfl) (by kernel_rfl) (by kernel_rfl) (fun _ _ _ h => h) (by rfl) HB0.out.drew ?_ ?_
  rotate_left
  · intro W' hW'
    go_simp
    try with_reducible rfl
  simp only [Act.put, List.setIfInBounds_toArray, List.set_cons_zero, List.set_cons_succ]
  refine heldS_call (i := 10) (by kernel_rfl) rfl (fun K' hK => ?_)
  go_simp
  refine hK.out _ _ HB0.out.drew ?_
  clear hK K'
  refine heldS_call (i := 11) (by kernel_rfl) rfl (fun K' hK => ?_)
  go_simp
  refine hK.out _ _ HB0.out.drew ?_
  clear hK K'
  refine heldS_call (i := 12) (by kernel_rfl) rfl (fun K' hK => ?_)
  go_simp
  refine hK.out _ _ HB0.out.drew ?_
  clear hK K'
  refine wpAnyH_done (by kernel_rfl) ?_ _
  obtain ⟨W1, hW1⟩ : ∃ W1, (w.alloc (.cells #[.int .i64 0, .slice none 0 0, .slice none 0 0] 32)).drew = W1 := ⟨_, rfl⟩
  have hcs : Cs W1 w.heap.size 32 [.int .i64 0, .slice none 0 0, .slice none 0 0] := by rw [← hW1]; exact (Cs.new w _ _).drew
  have hb1 : Below w.heap.size w W1 := by rw [← hW1]; exact HB0.out.drew
  change Exit.then _ _ Exit.normal _ ((w.alloc (.cells #[.int .i64 0, .slice none 0 0, .slice none 0 0] 32)).drew)
  rw [hW1]
  clear hW1
  obtain ⟨AA, hAA⟩ : ∃ AA, (if c = 2 then some a else some ⟨a.block, a.off + 2, none⟩ : Option Addr) = AA := ⟨_, rfl⟩
  rw [hAA]
  have HAA := Lib.hid hAA
  clear hAA
  have HB1 := Lib.hid hb1
  have HCS := Lib.hid hcs
  have f0 := hcs.free 0
  have f1 := hcs.free 1
  have f2 := hcs.free 2
  have r0 := hcs.cell 0
  have r1 := hcs.cell 1
  have r2 := hcs.cell 2
  simp only [List.getElem?_cons_succ, List.getElem?_cons_zero] at r0 r1 r2
  clear hb1 hcs
  go_wp2_with fail
  refine (hasLeaf_any _ _ _).mono ?_
  rintro e w' ⟨rfl, rfl⟩
  rw [HH.out]
  go_wp2
  exact bodyPost_ret (v := .tuple #[.agg #[.int .i64 0, .slice none 0 0, .slice none 0 0], .int .i64 2]) (by simp [results, Try.results43, go_sem, r0, r1, r2]) rfl ⟨rfl, ((HB1.out.setCell (p := ⟨w.heap.size, 0, none⟩) (Nat.le_refl _) _).setCell (p := ⟨w.heap.size, 1, none⟩) (Nat.le_refl _) _).setCell (p := ⟨w.heap.size, 2, none⟩) (Nat.le_refl _) _⟩
set_option maxHeartbeats 2000000 in
theorem dec_size (a : Addr) (n c : Nat) (z0 : Int) (H : Nat) (w : World) (hn : 2 ≤ n) (hc : n ≤ c) (hc0 : w.cell? a = some (.int .u8 z0)) (hc1 : w.cell? (a.add 1) = some (.int .u8 (H : Int))) (h0 : 0 ≤ z0 ∧ z0 ≤ 255) (h1 : 0 ≤ (H : Int) ∧ (H : Int) ≤ 255) (hh : leafB (H : Int) z0 = true) (hq : n - 2 ≠ 144 + 8 * H) :
    Calls Try.prog 43 #[.slice (some a) n c] w fun e w' => e = .returned (.tuple #[.agg #[.int .i64 0, .slice none 0 0, .slice none 0 0], .int .i64 2]) ∧ Below w.heap.size w w' := by
  have hnI : ¬ (n : Int) < 2 := by omega
  have hn0 : (0 : Int) < (n : Int) := by omega
  have hn1 : (1 : Int) < (n : Int) := by omega
  have hn0' : 0 < n := by omega
  have hn1' : 1 < n := by omega
  have hnc : ¬ (n : Int) < 2 := by omega
  have hn2 : (2 : Int) ≤ (n : Int) := by omega
  have hcI : (n : Int) ≤ (c : Int) := by omega
  have hw0 : wrap64 z0 = z0 := by unfold wrap64; omega
  have hw1 : wrap64 (H : Int) = (H : Int) := by unfold wrap64; omega
  have hi0 : IntKind.i64.wrap z0 = z0 := by rw [IntKind.wrap_i64]; omega
  have hi1 : IntKind.i64.wrap (H : Int) = (H : Int) := by rw [IntKind.wrap_i64]; omega
  have HC0 := Lib.hid hc0
  have HC1 := Lib.hid hc1
  have HB0 := Lib.hid ((Below.refl w.heap.size w).alloc (Nat.le_refl _) (.cells #[.int .i64 0, .slice none 0 0, .slice none 0 0] 32))
  have hH4 : H ≤ 4 := by rcases hgt_cases (leaf_lt hh).1 with e | e | e | e | e <;> omega
  have hm1 : wrap64 (8 * (H : Int)) = 8 * (H : Int) := by unfold wrap64; omega
  have hm2 : wrap64 (144 + 8 * (H : Int)) = 144 + 8 * (H : Int) := by unfold wrap64; omega
  have hm3 : ¬ ((n - 2 : Nat) : Int) = 144 + 8 * (H : Int) := by omega
  have HH := Lib.hid hh
  clear hh
  clear hc0 hc1
  go_enter Try.func43, Try.ntmps43
  go_wp2_with fail
  refine wp_region_held (S := fun W => Below w.heap.size w W) (by kernel_rfl) ?_
  refine heldS_take (i := 0) (v := ?_) rfl rfl (by kernel_rfl) (by kernel_rfl) (by kernel_rfl) (fun _ _ _ h => h) (by rfl) HB0.out.drew ?_ ?_
  rotate_left
  · intro W' hW'
    go_simp
    try with_reducible rfl
  simp only [Act.put, List.setIfInBounds_toArray, List.set_cons_zero, List.set_cons_succ]
  refine heldS_take (i := 1) (v := ?_) rfl rfl (by kernel_rfl) (by kernel_rfl) (by kernel_rfl) (fun _ _ _ h => h) (by rfl) HB0.out.drew ?_ ?_
  rotate_left
  · intro W' hW'
    go_simp
    try with_reducible rfl
  simp only [Act.put, List.setIfInBounds_toArray, List.set_cons_zero, List.set_cons_succ]
  refine heldS_take (i := 2) (v := ?_) rfl rfl (by kernel_rfl) (by kernel_rfl) (by kernel_rfl) (fun _ _ _ h => h) (by rfl) HB0.out.drew ?_ ?_
  rotate_left
  · intro W' hW'
    have e0 := (hW'.cell (cell_in HC0.out)).trans HC0.out
    go_simp
    try with_reducible rfl
  simp only [Act.put, List.setIfInBounds_toArray, List.set_cons_zero, List.set_cons_succ]
  refine heldS_take (i := 3) (v := ?_) rfl rfl (by kernel_rfl) (by kernel_rfl) (by kernel_rfl) (fun _ _ _ h => h) (by rfl) HB0.out.drew ?_ ?_
  rotate_left
  · intro W' hW'
    go_simp
    try with_reducible rfl
  simp only [Act.put, List.setIfInBounds_toArray, List.set_cons_zero, List.set_cons_succ]
  refine heldS_take (i := 4) (v := ?_) rfl rfl (by kernel_rfl) (by kernel_rfl) (by kernel_rfl) (fun _ _ _ h => h) (by rfl) HB0.out.drew ?_ ?_
  rotate_left
  · intro W' hW'
    go_simp
    try with_reducible rfl
  simp only [Act.put, List.setIfInBounds_toArray, List.set_cons_zero, List.set_cons_succ]
  refine heldS_take (i := 5) (v := ?_) rfl rfl (by kernel_rfl) (by kernel_rfl) (by kernel_rfl) (fun _ _ _ h => h) (by rfl) HB0.out.drew ?_ ?_
  rotate_left
  · intro W' hW'
    go_simp
    try with_reducible rfl
  simp only [Act.put, List.setIfInBounds_toArray, List.set_cons_zero, List.set_cons_succ]
  refine heldS_take (i := 6) (v := ?_) rfl rfl (by kernel_rfl) (by kernel_rfl) (by kernel_rfl) (fun _ _ _ h => h) (by rfl) HB0.out.drew ?_ ?_
  rotate_left
  · intro W' hW'
    have e1 : W'.cell? ⟨a.block, a.off + 1, none⟩ = some (.int .u8 (H : Int)) := (hW'.cell (cell_in HC1.out)).trans HC1.out
    go_simp
    try with_reducible rfl
  simp only [Act.put, List.setIfInBounds_toArray, List.set_cons_zero, List.set_cons_succ]
  refine heldS_take (i := 7) (v := ?_) rfl rfl (by kernel_rfl) (by kernel_rfl) (by kernel_rfl) (fun _ _ _ h => h) (by rfl) HB0.out.drew ?_ ?_
  rotate_left
  · intro W' hW'
    go_simp
    try with_reducible rfl
  simp only [Act.put, List.setIfInBounds_toArray, List.set_cons_zero, List.set_cons_succ]
  refine heldS_take (i := 8) (v := ?_) rfl rfl (by kernel_rfl) (by kernel_rfl) (by kernel_rfl) (fun _ _ _ h => h) (by rfl) HB0.out.drew ?_ ?_
  rotate_left
  · intro W' hW'
    go_simp
    try with_reducible rfl
  simp only [Act.put, List.setIfInBounds_toArray, List.set_cons_zero, List.set_cons_succ]
  refine heldS_take (i := 9) (v := ?_) rfl rfl (by kernel_rfl) (by kernel_rfl) (by kernel_rfl) (fun _ _ _ h => h) (by rfl) HB0.out.drew ?_ ?_
  rotate_left
  · intro W' hW'
    go_simp
    try with_reducible rfl
  simp only [Act.put, List.setIfInBounds_toArray, List.set_cons_zero, List.set_cons_succ]
  refine heldS_call (i := 10) (by kernel_rfl) rfl (fun K' hK => ?_)
  go_simp
  refine hK.out _ _ HB0.out.drew ?_
  clear hK K'
  refine heldS_call (i := 11) (by kernel_rfl) rfl (fun K' hK => ?_)
  go_simp
  refine hK.out _ _ HB0.out.drew ?_
  clear hK K'
  refine heldS_call (i := 12) (by kernel_rfl) rfl (fun K' hK => ?_)
  go_simp
  refine hK.out _ _ HB0.out.drew ?_
  clear hK K'
  refine wpAnyH_done (by kernel_rfl) ?_ _
  obtain ⟨W1, hW1⟩ : ∃ W1, (w.alloc (.cells #[.int .i64 0, .slice none 0 0, .slice none 0 0] 32)).drew = W1 := ⟨_, rfl⟩
  have hcs : Cs W1 w.heap.size 32 [.int .i64 0, .slice none 0 0, .slice none 0 0] := by rw [← hW1]; exact (Cs.new w _ _).drew
  have hb1 : Below w.heap.size w W1 := by rw [← hW1]; exact HB0.out.drew
  change Exit.then _ _ Exit.normal _ ((w.alloc (.cells #[.int .i64 0, .slice none 0 0, .slice none 0 0] 32)).drew)
  rw [hW1]
  clear hW1
  obtain ⟨AA, hAA⟩ : ∃ AA, (if c = 2 then some a else some ⟨a.block, a.off + 2, none⟩ : Option Addr) = AA := ⟨_, rfl⟩
  rw [hAA]
  have HAA := Lib.hid hAA
  clear hAA
  have HB1 := Lib.hid hb1
  have HCS := Lib.hid hcs
  have f0 := hcs.free 0
  have f1 := hcs.free 1
  have f2 := hcs.free 2
  have r0 := hcs.cell 0
  have r1 := hcs.cell 1
  have r2 := hcs.cell 2
  simp only [List.getElem?_cons_succ, List.getElem?_cons_zero] at r0 r1 r2
  clear hb1 hcs
  go_wp2_with fail
  refine (hasLeaf_any _ _ _).mono ?_
  rintro e w' ⟨rfl, rfl⟩
  rw [HH.out]
  go_wp2
  exact bodyPost_ret (v := .tuple #[.agg #[.int .i64 0, .slice none 0 0, .slice none 0 0], .int .i64 2]) (by simp [results, Try.results43, go_sem, r0, r1, r2]) rfl ⟨rfl, ((HB1.out.setCell (p := ⟨w.heap.size, 0, none⟩) (Nat.le_refl _) _).setCell (p := ⟨w.heap.size, 1, none⟩) (Nat.le_refl _) _).setCell (p := ⟨w.heap.size, 2, none⟩) (Nat.le_refl _) _⟩
set_option maxHeartbeats 2000000 in
theorem dec_ok (a : Addr) (n c : Nat) (z0 : Int) (H : Nat) (w : World) (hn : 2 ≤ n) (hc : n ≤ c) (hc0 : w.cell? a = some (.int .u8 z0)) (hc1 : w.cell? (a.add 1) = some (.int .u8 (H : Int))) (h0 : 0 ≤ z0 ∧ z0 ≤ 255) (h1 : 0 ≤ (H : Int) ∧ (H : Int) ≤ 255) (hh : leafB (H : Int) z0 = true) (hq : n - 2 = 144 + 8 * H) (zs : List Int) (hz : Bytes w (some (a.add 2)) (n - 2) zs) :
    Calls Try.prog 43 #[.slice (some a) n c] w fun e w' => ∃ A c B c2, e = .returned (.tuple #[.agg #[.int .i64 z0, .slice A 18 c, .slice B H c2], .int .i64 0]) ∧ Ws w' A 18 (rdWs (zs.take 144) 18) ∧ Ws w' B H (rdWs (zs.drop 144) H) ∧ Below w.heap.size w w' := by
  have hnI : ¬ (n : Int) < 2 := by omega
  have hn0 : (0 : Int) < (n : Int) := by omega
  have hn1 : (1 : Int) < (n : Int) := by omega
  have hn0' : 0 < n := by omega
  have hn1' : 1 < n := by omega
  have hnc : ¬ (n : Int) < 2 := by omega
  have hn2 : (2 : Int) ≤ (n : Int) := by omega
  have hcI : (n : Int) ≤ (c : Int) := by omega
  have hw0 : wrap64 z0 = z0 := by unfold wrap64; omega
  have hw1 : wrap64 (H : Int) = (H : Int) := by unfold wrap64; omega
  have hi0 : IntKind.i64.wrap z0 = z0 := by rw [IntKind.wrap_i64]; omega
  have hi1 : IntKind.i64.wrap (H : Int) = (H : Int) := by rw [IntKind.wrap_i64]; omega
  have HC0 := Lib.hid hc0
  have HC1 := Lib.hid hc1
  have HB0 := Lib.hid ((Below.refl w.heap.size w).alloc (Nat.le_refl _) (.cells #[.int .i64 0, .slice none 0 0, .slice none 0 0] 32))
  have hH4 : H ≤ 4 := by rcases hgt_cases (leaf_lt hh).1 with e | e | e | e | e <;> omega
  have hm1 : wrap64 (8 * (H : Int)) = 8 * (H : Int) := by unfold wrap64; omega
  have hm2 : wrap64 (144 + 8 * (H : Int)) = 144 + 8 * (H : Int) := by unfold wrap64; omega
  have hm3 : ((n - 2 : Nat) : Int) = 144 + 8 * (H : Int) := by omega
  have HH := Lib.hid hh
  have HZ := Lib.hid hz
  have HQ := Lib.hid hq
  have h144 : 144 ≤ n - 2 := by omega
  have h144c : 144 ≤ c - 2 := by omega
  have h144I : (144 : Int) ≤ ((n - 2 : Nat) : Int) := by omega
  have h144cI : (144 : Int) ≤ ((c - 2 : Nat) : Int) := by omega
  have hnc2 : n - 2 ≤ c - 2 := by omega
  have hnc2I : ((n - 2 : Nat) : Int) ≤ ((c - 2 : Nat) : Int) := by omega
  have hc2 : ¬ c = 2 := by omega
  clear hh hz hq
  clear hc0 hc1
  go_enter Try.func43, Try.ntmps43
  go_wp2_with fail
  refine wp_region_held (S := fun W => Below w.heap.size w W) (by kernel_rfl) ?_
  refine heldS_take (i := 0) (v := ?_) rfl rfl (by kernel_rfl) (by kernel_rfl) (by kernel_rfl) (fun _ _ _ h => h) (by rfl) HB0.out.drew ?_ ?_
  rotate_left
  · intro W' hW'
    go_simp
    try with_reducible rfl
  simp only [Act.put, List.setIfInBounds_toArray, List.set_cons_zero, List.set_cons_succ]
  refine heldS_take (i := 1) (v := ?_) rfl rfl (by kernel_rfl) (by kernel_rfl) (by kernel_rfl) (fun _ _ _ h => h) (by rfl) HB0.out.drew ?_ ?_
  rotate_left
  · intro W' hW'
    go_simp
    try with_reducible rfl
  simp only [Act.put, List.setIfInBounds_toArray, List.set_cons_zero, List.set_cons_succ]
  refine heldS_take (i := 2) (v := ?_) rfl rfl (by kernel_rfl) (by kernel_rfl) (by kernel_rfl) (fun _ _ _ h => h) (by rfl) HB0.out.drew ?_ ?_
  rotate_left
  · intro W' hW'
    have e0 := (hW'.cell (cell_in HC0.out)).trans HC0.out
    go_simp
    try with_reducible rfl
  simp only [Act.put, List.setIfInBounds_toArray, List.set_cons_zero, List.set_cons_succ]
  refine heldS_take (i := 3) (v := ?_) rfl rfl (by kernel_rfl) (by kernel_rfl) (by kernel_rfl) (fun _ _ _ h => h) (by rfl) HB0.out.drew ?_ ?_
  rotate_left
  · intro W' hW'
    go_simp
    try with_reducible rfl
  simp only [Act.put, List.setIfInBounds_toArray, List.set_cons_zero, List.set_cons_succ]
  refine heldS_take (i := 4) (v := ?_) rfl rfl (by kernel_rfl) (by kernel_rfl) (by kernel_rfl) (fun _ _ _ h => h) (by rfl) HB0.out.drew ?_ ?_
  rotate_left
  · intro W' hW'
    go_simp
    try with_reducible rfl
  simp only [Act.put, List.setIfInBounds_toArray, List.set_cons_zero, List.set_cons_succ]
  refine heldS_take (i := 5) (v := ?_) rfl rfl (by kernel_rfl) (by kernel_rfl) (by kernel_rfl) (fun _ _ _ h => h) (by rfl) HB0.out.drew ?_ ?_
  rotate_left
  · intro W' hW'
    go_simp
    try with_reducible rfl
  simp only [Act.put, List.setIfInBounds_toArray, List.set_cons_zero, List.set_cons_succ]
  refine heldS_take (i := 6) (v := ?_) rfl rfl (by kernel_rfl) (by kernel_rfl) (by kernel_rfl) (fun _ _ _ h => h) (by rfl) HB0.out.drew ?_ ?_
  rotate_left
  · intro W' hW'
    have e1 : W'.cell? ⟨a.block, a.off + 1, none⟩ = some (.int .u8 (H : Int)) := (hW'.cell (cell_in HC1.out)).trans HC1.out
    go_simp
    try with_reducible rfl
  simp only [Act.put, List.setIfInBounds_toArray, List.set_cons_zero, List.set_cons_succ]
  refine heldS_take (i := 7) (v := ?_) rfl rfl (by kernel_rfl) (by kernel_rfl) (by kernel_rfl) (fun _ _ _ h => h) (by rfl) HB0.out.drew ?_ ?_
  rotate_left
  · intro W' hW'
    go_simp
    try with_reducible rfl
  simp only [Act.put, List.setIfInBounds_toArray, List.set_cons_zero, List.set_cons_succ]
  refine heldS_take (i := 8) (v := ?_) rfl rfl (by kernel_rfl) (by kernel_rfl) (by kernel_rfl) (fun _ _ _ h => h) (by rfl) HB0.out.drew ?_ ?_
  rotate_left
  · intro W' hW'
    go_simp
    try with_reducible rfl
  simp only [Act.put, List.setIfInBounds_toArray, List.set_cons_zero, List.set_cons_succ]
  refine heldS_take (i := 9) (v := ?_) rfl rfl (by kernel_rfl) (by kernel_rfl) (by kernel_rfl) (fun _ _ _ h => h) (by rfl) HB0.out.drew ?_ ?_
  rotate_left
  · intro W' hW'
    go_simp
    try with_reducible rfl
  simp only [Act.put, List.setIfInBounds_toArray, List.set_cons_zero, List.set_cons_succ]
  refine heldS_call (i := 10) (by kernel_rfl) rfl (fun K' hK => ?_)
  go_simp
  refine hK.out _ _ HB0.out.drew ?_
  clear hK K'
  refine heldS_call (i := 11) (by kernel_rfl) rfl (fun K' hK => ?_)
  go_simp
  refine hK.out _ _ HB0.out.drew ?_
  clear hK K'
  refine heldS_call (i := 12) (by kernel_rfl) rfl (fun K' hK => ?_)
  go_simp
  refine hK.out _ _ HB0.out.drew ?_
  clear hK K'
  refine wpAnyH_done (by kernel_rfl) ?_ _
  obtain ⟨W1, hW1⟩ : ∃ W1, (w.alloc (.cells #[.int .i64 0, .slice none 0 0, .slice none 0 0] 32)).drew = W1 := ⟨_, rfl⟩
  have hcs : Cs W1 w.heap.size 32 [.int .i64 0, .slice none 0 0, .slice none 0 0] := by rw [← hW1]; exact (Cs.new w _ _).drew
  have hb1 : Below w.heap.size w W1 := by rw [← hW1]; exact HB0.out.drew
  change Exit.then _ _ Exit.normal _ ((w.alloc (.cells #[.int .i64 0, .slice none 0 0, .slice none 0 0] 32)).drew)
  rw [hW1]
  clear hW1
  obtain ⟨AA, hAA⟩ : ∃ AA, (some ⟨a.block, a.off + 2, none⟩ : Option Addr) = AA := ⟨_, rfl⟩
  rw [hAA]
  have HAA := Lib.hid hAA
  clear hAA
  have HB1 := Lib.hid hb1
  have HCS := Lib.hid hcs
  have f0 := hcs.free 0
  have f1 := hcs.free 1
  have f2 := hcs.free 2
  have r0 := hcs.cell 0
  have r1 := hcs.cell 1
  have r2 := hcs.cell 2
  simp only [List.getElem?_cons_succ, List.getElem?_cons_zero] at r0 r1 r2
  clear hb1 hcs
  go_wp2_with fail
  refine (hasLeaf_any _ _ _).mono ?_
  rintro e w' ⟨rfl, rfl⟩
  rw [HH.out]
  have HZ1 : Hid (Bytes W1 AA (n - 2) zs) := Lib.hid (by rw [← HAA.out]; exact HZ.out.below HB1.out)
  obtain ⟨q, hq⟩ : ∃ q, n - 2 = q := ⟨_, rfl⟩
  obtain ⟨d, hd⟩ : ∃ d, c - 2 = d := ⟨_, rfl⟩
  rw [hq] at HQ HZ1
  rw [hq] at h144 h144I hnc2 hnc2I hm3
  rw [hd] at h144c h144cI hnc2 hnc2I
  go_wp2_with fail
  have hzd := HZ1.out.drop (cap := d) 144 h144 hnc2
  obtain ⟨A9, hA9⟩ : ∃ A9, (if d = 144 then AA else Option.map (fun x => (⟨x.block, x.off + 144, none⟩ : Addr)) AA) = A9 := ⟨_, rfl⟩
  have HZ9 : Hid (Bytes W1 A9 (q - 144) (zs.drop 144)) := Lib.hid (by rw [← hA9]; exact hzd)
  have HA9 := Lib.hid hA9
  clear hq hd hzd hA9
  clear hm3
  have hcs : Cs W1 w.heap.size 32 [.int .i64 0, .slice none 0 0, .slice none 0 0] := HCS.out
  have hlt := hcs.lt
  clear hcs r0 r1 r2 f0 f1 f2
  refine wp_region_held (S := fun W => Below w.heap.size w W) (by kernel_rfl) ?_
  refine heldS_take (i := 0) (v := ?_) rfl rfl (by kernel_rfl) (by kernel_rfl) (by kernel_rfl) (fun _ _ _ h => h) (by rfl) HB1.out.drew ?_ ?_
  rotate_left
  · intro W' hW'
    go_simp
    try with_reducible rfl
  simp only [Act.put, List.setIfInBounds_toArray, List.set_cons_zero, List.set_cons_succ]
  refine heldS_take (i := 1) (v := ?_) rfl rfl (by kernel_rfl) (by kernel_rfl) (by kernel_rfl) (fun _ _ _ h => h) (by rfl) HB1.out.drew ?_ ?_
  rotate_left
  · intro W' hW'
    go_simp
    try with_reducible rfl
  simp only [Act.put, List.setIfInBounds_toArray, List.set_cons_zero, List.set_cons_succ]
  refine heldS_take (i := 2) (v := ?_) rfl rfl (by kernel_rfl) (by kernel_rfl) (by kernel_rfl) (fun _ _ _ h => h) (by rfl) HB1.out.drew ?_ ?_
  rotate_left
  · intro W' hW'
    go_simp
    try with_reducible rfl
  simp only [Act.put, List.setIfInBounds_toArray, List.set_cons_zero, List.set_cons_succ]
  refine heldS_take (i := 4) (v := ?_) rfl rfl (by kernel_rfl) (by kernel_rfl) (by kernel_rfl) (fun _ _ _ h => h) (by rfl) HB1.out.drew ?_ ?_
  rotate_left
  · intro W' hW'
    go_simp
    try with_reducible rfl
  simp only [Act.put, List.setIfInBounds_toArray, List.set_cons_zero, List.set_cons_succ]
  refine heldS_take (i := 5) (v := ?_) rfl rfl (by kernel_rfl) (by kernel_rfl) (by kernel_rfl) (fun _ _ _ h => h) (by rfl) HB1.out.drew ?_ ?_
  rotate_left
  · intro W' hW'
    go_simp
    try with_reducible rfl
  simp only [Act.put, List.setIfInBounds_toArray, List.set_cons_zero, List.set_cons_succ]
  rw [HA9.out]
  refine heldS_call (i := 3) (by kernel_rfl) rfl (fun K' hK => ?_)
  go_simp
  refine (words_read' AA 18 144 d (zs.take 144) _ ((HZ1.out.take 144 h144).below (Below.refl _ W1).drew) rfl h144c (by omega)).mono ?_
  rintro e w2 ⟨v2, rfl, ho2, hb2⟩
  obtain ⟨A2, k2, rfl, _⟩ := own_words ho2
  have hg2 : Below W1.heap.size W1 w2 := (Below.refl _ W1).drew.trans hb2
  have hS : Below w.heap.size w w2 := HB1.out.trans (hg2.mono (Nat.le_of_lt hlt))
  refine hK.out _ _ hS ?_
  clear hK K'
  have HO2 := Lib.hid ho2
  have HG2 := Lib.hid hg2
  have HS2 := Lib.hid hS
  have hs2 := hg2.size
  clear ho2 hb2 hg2 hS
  refine heldS_call (i := 6) (by kernel_rfl) rfl (fun K' hK => ?_)
  go_simp
  refine (words_read' _ H (q - 144) (d - 144) (zs.drop 144) _ (HZ9.out.below HG2.out) (by have := HQ.out; omega) (by omega) (by omega)).mono ?_
  rintro e w3 ⟨v3, rfl, ho3, hb3⟩
  obtain ⟨A3, k3, rfl, _⟩ := own_words ho3
  have hg3 : Below W1.heap.size W1 w3 := HG2.out.trans (hb3.mono hs2)
  have hS : Below w.heap.size w w3 := HB1.out.trans (hg3.mono (Nat.le_of_lt hlt))
  refine hK.out _ _ hS ?_
  clear hK K'
  have HO23 := Lib.hid (owns_below HO2.out hb3)
  have HO3 := Lib.hid (owns_base ho3 hs2)
  have hcs := HCS.out.below hg3 hlt
  have HS3 := Lib.hid hS
  clear ho3 hb3 hS hg3
  refine heldS_take (i := 7) (v := ?_) rfl rfl (by kernel_rfl) (by kernel_rfl) (by kernel_rfl) (fun _ _ _ h => h) (by rfl) HS3.out ?_ ?_
  rotate_left
  · intro W' hW'
    go_simp
    try with_reducible rfl
  simp only [Act.put, List.setIfInBounds_toArray, List.set_cons_zero, List.set_cons_succ]
  have f0 := hcs.free 0
  have f1 := hcs.free 1
  have f2 := hcs.free 2
  have r0 := hcs.cell 0
  have r1 := hcs.cell 1
  have r2 := hcs.cell 2
  simp only [List.getElem?_cons_succ, List.getElem?_cons_zero] at r0 r1 r2
  clear hcs
  refine heldS_call (i := 8) (by kernel_rfl) rfl (fun K' hK => ?_)
  go_simp
  refine hK.out _ _ (((HS3.out.setCell (p := ⟨w.heap.size, 0, none⟩) (Nat.le_refl _) _).setCell (p := ⟨w.heap.size, 1, none⟩) (Nat.le_refl _) _).setCell (p := ⟨w.heap.size, 2, none⟩) (Nat.le_refl _) _) ?_
  clear hK K'
  refine heldS_call (i := 9) (by kernel_rfl) rfl (fun K' hK => ?_)
  go_simp
  refine hK.out _ _ (((HS3.out.setCell (p := ⟨w.heap.size, 0, none⟩) (Nat.le_refl _) _).setCell (p := ⟨w.heap.size, 1, none⟩) (Nat.le_refl _) _).setCell (p := ⟨w.heap.size, 2, none⟩) (Nat.le_refl _) _) ?_
  clear hK K'
  refine wpAnyH_done (by kernel_rfl) ?_ _
  go_wp2
  have hf : ∀ (W : World) (base : Nat) (v : Value) (m : Nat) (xs : List Value), W.ownsRow base 22 1 v m xs → w.heap.size < base → (((W.setCell ⟨w.heap.size, 0, none⟩ (.int .i64 z0)).setCell ⟨w.heap.size, 1, none⟩ (.slice A2 18 k2)).setCell ⟨w.heap.size, 2, none⟩ (.slice A3 H k3)).ownsRow base 22 1 v m xs := fun W base v m xs h hb =>
    ownsRow_setCell_below (ownsRow_setCell_below (ownsRow_setCell_below h (a := ⟨w.heap.size, 0, none⟩) hb _) (a := ⟨w.heap.size, 1, none⟩) hb _) (a := ⟨w.heap.size, 2, none⟩) hb _
  obtain ⟨A', c', e', hWA⟩ := own_words (hf _ _ _ _ _ HO23.out hlt)
  cases e'
  obtain ⟨B', c', e', hWB⟩ := own_words (hf _ _ _ _ _ HO3.out hlt)
  cases e'
  exact bodyPost_ret (v := .tuple #[.agg #[.int .i64 z0, .slice A2 18 k2, .slice A3 H k3], .int .i64 0]) (by simp [results, Try.results43, go_sem, r0, r1, r2]) rfl ⟨A2, k2, A3, k3, rfl, hWA, hWB, ((HS3.out.setCell (p := ⟨w.heap.size, 0, none⟩) (Nat.le_refl _) _).setCell (p := ⟨w.heap.size, 1, none⟩) (Nat.le_refl _) _).setCell (p := ⟨w.heap.size, 2, none⟩) (Nat.le_refl _) _⟩
end Go.Proofs.Ythgahjihgoiklaa
