/- Sign of the reference. -/
import Derived.Test.YthgahjihgoiklaaTkF
import Derived.Test.YthgahjihgoiklaaRgR
namespace Go.Proofs.Ythgahjihgoiklaa
open Go.RowKit
set_option maxRecDepth 100000

/-- the sibling of the ancestor of leaf l at level k -/
def sib (l k : Nat) : Nat := (l / 2 ^ k) ^^^ 1
def pathF (s : BitVec 64) (l k : Nat) : List (BitVec 64) := (List.range k).map fun j => treeN s j (sib l j)
theorem pathF_len (s : BitVec 64) (l k : Nat) : (pathF s l k).length = k := by simp [pathF]
theorem pathF_succ (s : BitVec 64) (l k : Nat) : pathF s l k ++ [treeN s k (sib l k)] = pathF s l (k + 1) := by simp [pathF, List.range_succ]
theorem xor_one : ∀ a : Fin 16, bits .xor .i64 ((a.val : Nat) : Int) 1 = ((a.val ^^^ 1 : Nat) : Int) := by decide +kernel
theorem sib_eq (l k : Nat) (hl : l < 16) : ∃ a : Nat, (l : Int) / 2 ^ k = (a : Int) ∧ a ≤ 15 ∧ bits .xor .i64 (a : Int) 1 = (sib l k : Int) := by
  have hle : l / 2 ^ k ≤ 15 := Nat.le_trans (Nat.div_le_self _ _) (by omega)
  refine ⟨l / 2 ^ k, by simp, hle, ?_⟩
  exact xor_one ⟨l / 2 ^ k, by omega⟩
theorem sib_lt (l k h : Nat) (hl : l < 2 ^ h) (hk : k < h) : sib l k < 2 ^ (h - k) := by
  unfold sib
  refine Nat.xor_lt_two_pow ?_ ?_
  · rw [Nat.div_lt_iff_lt_mul (by exact Nat.two_pow_pos k), ← Nat.pow_add, Nat.sub_add_cancel (by omega)]; exact hl
  · have := Nat.one_lt_two_pow (n := h - k) (by omega); omega
theorem signS_no (s m : BitVec 64) (h l : Int) (hh : leafB h l = false) (w : World) :
    Calls Try.prog 13 #[.int .u64 (val s), .int .i64 h, .int .i64 l, .int .u64 (val m)] w fun e w' => e = .returned (.tuple #[.agg #[.int .i64 0, .slice none 0 0, .slice none 0 0], .int .i64 9]) ∧ Below w.heap.size w w' := by
  have HH := Lib.hid hh
  clear hh
  go_enter Try.func13, Try.ntmps13
  go_wp2_with fail
  refine (hasLeaf_any h l _).mono ?_
  rintro e w' ⟨rfl, rfl⟩
  rw [HH.out]
  go_wp2
  exact bodyPost_ret (v := .tuple #[.agg #[.int .i64 0, .slice none 0 0, .slice none 0 0], .int .i64 9]) (by simp [results, Try.results13, go_sem]) rfl ⟨rfl, ((((Below.refl _ _).alloc (Nat.le_refl _) _).alloc (by simp) _).alloc (by simp; omega) _)⟩
set_option maxHeartbeats 1000000 in
theorem signRT_ok (s m : BitVec 64) (h l : Nat) (hh : h ≤ 4) (hl : l < 2 ^ h) (w : World) :
    Calls Try.prog 14 #[.int .u64 (val s), .int .i64 (h : Int), .int .i64 (l : Int), .int .u64 (val m)] w fun e w' => ∃ A c B c2, e = .returned (.tuple #[.agg #[.int .i64 (l : Int), .slice A 18 c, .slice B h c2], .int .i64 0]) ∧
      Ws w' A 18 (vals (sigF s l m)) ∧ Ws w' B h (pathF s l h) ∧ Below w.heap.size w w' := by
  have HH : Hid (hgtB (h : Int) = true) := Lib.hid (by unfold hgtB; simp; omega)
  have hp := pow_le h hh
  obtain ⟨N, hN⟩ : ∃ N : Nat, 2 ^ h = N := ⟨_, rfl⟩
  have hwr := wrap_pow h hh
  rw [hN] at hp hl hwr
  have hlI : (l : Int) < (N : Int) := by omega
  have hhI : (h : Int) ≤ 4 := by omega
  have HNN := Lib.hid hN
  clear hN
  go_enter Try.func14, Try.ntmps14
  go_wp2_with fail
  refine (hgtR_any _ _).mono ?_
  rintro e w' ⟨rfl, rfl⟩
  rw [HH.out]
  go_wp2_with fail
  refine (signR_any s l m _).mono ?_
  rintro e w1 ⟨v1, rfl, ho1, hb1⟩
  obtain ⟨A, c, rfl, _⟩ := own_words ho1
  have hc0 := (Cs.new w 32 [.int .i64 0, .slice none 0 0, .slice none 0 0]).below hb1 (by simp)
  have hB1 := ((Below.refl _ w).alloc (Nat.le_refl _) (.cells #[.int .i64 0, .slice none 0 0, .slice none 0 0] 32)).trans (hb1.mono (by simp))
  have HC0 := Lib.hid hc0
  have HB1 := Lib.hid hB1
  have HO1 := Lib.hid ho1
  have hs1 := hB1.size
  have hlt1 := hc0.lt
  clear hc0 hB1 ho1 hb1 hwr
  go_wp2
  go_loopw [11] (fun i wr => ∃ (k : Nat) (B : Option Addr) (c2 : Nat), i = .int .i64 k ∧ k ≤ h ∧ Cs wr w1.heap.size 32 [.int .i64 (l : Int), .slice A 18 c, .slice B k c2] ∧ wr.ownsRow (w1.heap.size + 1) 22 1 (.slice B k c2) k (wv (pathF s l k)) ∧ Below w1.heap.size w1 wr) (fun i _ => h - (intOf i).toNat)
  case atStart => exact ⟨0, none, 0, rfl, Nat.zero_le _, Cs.new w1 _ _, World.ownsRow_nil _ _ _ _, (Below.refl _ _).alloc (Nat.le_refl _) _⟩
  case round =>
    obtain ⟨k, B, c2, rfl, hk, hC, hO, hB⟩ := hrel
    have hlt := hC.lt
    have HC := Lib.hid hC
    have HO := Lib.hid hO
    have HB := Lib.hid hB
    have hsz := hB.size
    clear hC hO hB
    by_cases hkh : k < h
    · obtain ⟨a, ha, ha2, ha3⟩ := sib_eq l k (by omega)
      have hsl := sib_lt l k h (by have := HNN.out; omega) hkh
      have hpk := pow_le (h - k) (by omega)
      obtain ⟨j, hj⟩ : ∃ j : Nat, sib l k = j := ⟨_, rfl⟩
      rw [hj] at ha3 hsl
      have hkI : (k : Int) < (h : Int) := by omega
      have hk63 : ¬ (63 : Int) < (k : Int) := by omega
      have HJ := Lib.hid hj
      have hwk : IntKind.u64.wrap (k : Int) = (k : Int) := by rw [IntKind.wrap_u64]; omega
      have hmk : min k 64 = k := by omega
      have hct := fun w3 => treeR_any s k j w3 (by omega) (by
        have h1 : j ≤ 15 := by omega
        have h2 := pow_le k (by omega)
        have h3 : j * 2 ^ k ≤ 15 * 16 := Nat.mul_le_mul h1 h2.2
        omega)
      have HCT := Lib.hid hct
      clear hj hct hsl hpk
      go_wp2
      refine wp_region_held (S := fun W => Below w1.heap.size w1 W) (by kernel_rfl) ?_
      refine heldS_take (i := 0) (v := ?_) rfl rfl (by kernel_rfl) (by kernel_rfl) (by kernel_rfl) (fun _ _ _ h => h) (by rfl) HB.out.drew ?_ ?_
      rotate_left
      · intro W hW
        go_simp
        try with_reducible rfl
      simp only [Act.put, List.setIfInBounds_toArray, List.set_cons_zero, List.set_cons_succ]
      refine heldS_take (i := 2) (v := ?_) rfl rfl (by kernel_rfl) (by kernel_rfl) (by kernel_rfl) (fun _ _ _ h => h) (by rfl) HB.out.drew ?_ ?_
      rotate_left
      · intro W hW
        go_simp
        try with_reducible rfl
      simp only [Act.put, List.setIfInBounds_toArray, List.set_cons_zero, List.set_cons_succ]
      refine heldS_take (i := 3) (v := ?_) rfl rfl (by kernel_rfl) (by kernel_rfl) (by kernel_rfl) (fun _ _ _ h => h) (by rfl) HB.out.drew ?_ ?_
      rotate_left
      · intro W hW
        go_simp
        try with_reducible rfl
      simp only [Act.put, List.setIfInBounds_toArray, List.set_cons_zero, List.set_cons_succ]
      refine heldS_take (i := 4) (v := ?_) rfl rfl (by kernel_rfl) (by kernel_rfl) (by kernel_rfl) (fun _ _ _ h => h) (by rfl) HB.out.drew ?_ ?_
      rotate_left
      · intro W hW
        go_simp
        try with_reducible rfl
      simp only [Act.put, List.setIfInBounds_toArray, List.set_cons_zero, List.set_cons_succ]
      refine heldS_take (i := 5) (v := ?_) rfl rfl (by kernel_rfl) (by kernel_rfl) (by kernel_rfl) (fun _ _ _ h => h) (by rfl) HB.out.drew ?_ ?_
      rotate_left
      · intro W hW
        go_simp
        try with_reducible rfl
      simp only [Act.put, List.setIfInBounds_toArray, List.set_cons_zero, List.set_cons_succ]
      refine heldS_take (i := 6) (v := ?_) rfl rfl (by kernel_rfl) (by kernel_rfl) (by kernel_rfl) (fun _ _ _ h => h) (by rfl) HB.out.drew ?_ ?_
      rotate_left
      · intro W hW
        go_simp
        try with_reducible rfl
      simp only [Act.put, List.setIfInBounds_toArray, List.set_cons_zero, List.set_cons_succ]
      refine heldS_take (i := 7) (v := ?_) rfl rfl (by kernel_rfl) (by kernel_rfl) (by kernel_rfl) (fun _ _ _ h => h) (by rfl) HB.out.drew ?_ ?_
      rotate_left
      · intro W hW
        go_simp
        try with_reducible rfl
      simp only [Act.put, List.setIfInBounds_toArray, List.set_cons_zero, List.set_cons_succ]
      refine heldS_take (i := 8) (v := ?_) rfl rfl (by kernel_rfl) (by kernel_rfl) (by kernel_rfl) (fun _ _ _ h => h) (by rfl) HB.out.drew ?_ ?_
      rotate_left
      · intro W hW
        go_simp
        try with_reducible rfl
      simp only [Act.put, List.setIfInBounds_toArray, List.set_cons_zero, List.set_cons_succ]
      refine heldS_two (i := 1) (j := 9) (by kernel_rfl) rfl rfl (fun K' hK => ?_) (fun K' hK => ?_)
      · have cp := HC.out.drew.cell 2
        simp only [List.getElem?_cons_succ, List.getElem?_cons_zero] at cp
        go_simp
        refine hK.out _ _ HB.out.drew ?_
        clear hK K' cp
        refine heldS_call (i := 9) (by kernel_rfl) rfl (fun K' hK => ?_)
        go_simp
        refine (HCT.out _).mono ?_
        rintro e w3 ⟨rfl, hb⟩
        have hS : Below w1.heap.size w1 w3 := HB.out.drew.trans (hb.mono hsz)
        refine hK.out _ _ hS ?_
        clear hK K'
        have HB3 := Lib.hid hS
        have HO3 := Lib.hid (owns_below HO.out.drew hb)
        have HC3 := Lib.hid (HC.out.drew.below hb hlt)
        have hs3 : w1.heap.size + 1 ≤ w3.heap.size := by have := HC3.out.lt; omega
        clear hb hS
        refine heldS_call (i := 10) (by kernel_rfl) rfl (fun K' hK => ?_)
        go_simp
        refine hK.out _ _ (HB3.out.alloc (by omega) _) ?_
        clear hK K'
        refine heldS_call (i := 11) (by kernel_rfl) rfl (fun K' hK => ?_)
        refine step_words rfl _ _ rfl (w1.heap.size + 1) _ k (pathF s l k) (treeN s k j) w3.heap.size (HO3.out.alloc _) rfl (Ws.one w3 _) rfl (by omega) (by simp; omega) ?_
        intro v4 w4 ho4 hb4
        have hS : Below w1.heap.size w1 w4 := (HB3.out.alloc (by omega) _).trans (hb4.mono (by omega))
        refine hK.out _ _ hS ?_
        clear hK K'
        obtain ⟨B4, c4, rfl, _⟩ := own_words ho4
        have hC4 := (HC3.out.grow (.cells #[.int .u64 (val (treeN s k j))] 22)).below hb4 (Nat.lt_succ_self _)
        rw [← HJ.out, pathF_succ] at ho4
        have HO4 := Lib.hid (ownsRow_setCell_below ho4 (a := ⟨w1.heap.size, 2, none⟩) (Nat.lt_succ_self _) (.slice B4 (k + 1) c4))
        have HC4 := Lib.hid (hC4.set_ 2 (.slice B4 (k + 1) c4))
        have c4a := hC4.cell 2
        have f4a := hC4.free 2
        simp only [List.getElem?_cons_succ, List.getElem?_cons_zero] at c4a
        have HB4 := Lib.hid hS
        clear ho4 hb4 hS hC4
        refine heldS_take (i := 12) (v := ?_) rfl rfl (by kernel_rfl) (by kernel_rfl) (by kernel_rfl) (fun _ _ _ h => h) (by rfl) HB4.out ?_ ?_
        rotate_left
        · intro W hW
          go_simp
          try with_reducible rfl
        simp only [Act.put, List.setIfInBounds_toArray]
        refine heldS_call (i := 13) (by kernel_rfl) rfl (fun K' hK => ?_)
        go_simp
        refine hK.out _ _ (HB4.out.setCell (Nat.le_refl _) _) ?_
        clear hK K'
        refine wpAnyH_done (by kernel_rfl) ?_ _
        go_wp2
        go_roundw
        case rel => exact ⟨k + 1, B4, c4, by go_num, by omega, HC4.out, HO4.out, HB4.out.setCell (Nat.le_refl _) _⟩
        case measure => (simp [intOf] <;> omega)
      · go_simp
        refine (HCT.out _).mono ?_
        rintro e w3 ⟨rfl, hb⟩
        have hS : Below w1.heap.size w1 w3 := HB.out.drew.trans (hb.mono hsz)
        refine hK.out _ _ hS ?_
        clear hK K'
        have HB3 := Lib.hid hS
        have HO3 := Lib.hid (owns_below HO.out.drew hb)
        have HC3 := Lib.hid (HC.out.drew.below hb hlt)
        have hs3 : w1.heap.size + 1 ≤ w3.heap.size := by have := HC3.out.lt; omega
        clear hb hS
        refine heldS_two (i := 1) (j := 10) (by kernel_rfl) rfl rfl (fun K' hK => ?_) (fun K' hK => ?_)
        · have cp := HC3.out.cell 2
          simp only [List.getElem?_cons_succ, List.getElem?_cons_zero] at cp
          go_simp
          refine hK.out _ _ HB3.out ?_
          clear hK K' cp
          refine heldS_call (i := 10) (by kernel_rfl) rfl (fun K' hK => ?_)
          go_simp
          refine hK.out _ _ (HB3.out.alloc (by omega) _) ?_
          clear hK K'
          refine heldS_call (i := 11) (by kernel_rfl) rfl (fun K' hK => ?_)
          refine step_words rfl _ _ rfl (w1.heap.size + 1) _ k (pathF s l k) (treeN s k j) w3.heap.size (HO3.out.alloc _) rfl (Ws.one w3 _) rfl (by omega) (by simp; omega) ?_
          intro v4 w4 ho4 hb4
          have hS : Below w1.heap.size w1 w4 := (HB3.out.alloc (by omega) _).trans (hb4.mono (by omega))
          refine hK.out _ _ hS ?_
          clear hK K'
          obtain ⟨B4, c4, rfl, _⟩ := own_words ho4
          have hC4 := (HC3.out.grow (.cells #[.int .u64 (val (treeN s k j))] 22)).below hb4 (Nat.lt_succ_self _)
          rw [← HJ.out, pathF_succ] at ho4
          have HO4 := Lib.hid (ownsRow_setCell_below ho4 (a := ⟨w1.heap.size, 2, none⟩) (Nat.lt_succ_self _) (.slice B4 (k + 1) c4))
          have HC4 := Lib.hid (hC4.set_ 2 (.slice B4 (k + 1) c4))
          have c4a := hC4.cell 2
          have f4a := hC4.free 2
          simp only [List.getElem?_cons_succ, List.getElem?_cons_zero] at c4a
          have HB4 := Lib.hid hS
          clear ho4 hb4 hS hC4
          refine heldS_take (i := 12) (v := ?_) rfl rfl (by kernel_rfl) (by kernel_rfl) (by kernel_rfl) (fun _ _ _ h => h) (by rfl) HB4.out ?_ ?_
          rotate_left
          · intro W hW
            go_simp
            try with_reducible rfl
          simp only [Act.put, List.setIfInBounds_toArray]
          refine heldS_call (i := 13) (by kernel_rfl) rfl (fun K' hK => ?_)
          go_simp
          refine hK.out _ _ (HB4.out.setCell (Nat.le_refl _) _) ?_
          clear hK K'
          refine wpAnyH_done (by kernel_rfl) ?_ _
          go_wp2
          go_roundw
          case rel => exact ⟨k + 1, B4, c4, by go_num, by omega, HC4.out, HO4.out, HB4.out.setCell (Nat.le_refl _) _⟩
          case measure => (simp [intOf] <;> omega)
        · go_simp
          refine hK.out _ _ (HB3.out.alloc (by omega) _) ?_
          clear hK K'
          refine heldS_call (i := 1) (by kernel_rfl) rfl (fun K' hK => ?_)
          have cp := (HC3.out.grow (.cells #[.int .u64 (val (treeN s k j))] 22)).cell 2
          simp only [List.getElem?_cons_succ, List.getElem?_cons_zero] at cp
          go_simp
          refine hK.out _ _ (HB3.out.alloc (by omega) _) ?_
          clear hK K' cp
          refine heldS_call (i := 11) (by kernel_rfl) rfl (fun K' hK => ?_)
          refine step_words rfl _ _ rfl (w1.heap.size + 1) _ k (pathF s l k) (treeN s k j) w3.heap.size (HO3.out.alloc _) rfl (Ws.one w3 _) rfl (by omega) (by simp; omega) ?_
          intro v4 w4 ho4 hb4
          have hS : Below w1.heap.size w1 w4 := (HB3.out.alloc (by omega) _).trans (hb4.mono (by omega))
          refine hK.out _ _ hS ?_
          clear hK K'
          obtain ⟨B4, c4, rfl, _⟩ := own_words ho4
          have hC4 := (HC3.out.grow (.cells #[.int .u64 (val (treeN s k j))] 22)).below hb4 (Nat.lt_succ_self _)
          rw [← HJ.out, pathF_succ] at ho4
          have HO4 := Lib.hid (ownsRow_setCell_below ho4 (a := ⟨w1.heap.size, 2, none⟩) (Nat.lt_succ_self _) (.slice B4 (k + 1) c4))
          have HC4 := Lib.hid (hC4.set_ 2 (.slice B4 (k + 1) c4))
          have c4a := hC4.cell 2
          have f4a := hC4.free 2
          simp only [List.getElem?_cons_succ, List.getElem?_cons_zero] at c4a
          have HB4 := Lib.hid hS
          clear ho4 hb4 hS hC4
          refine heldS_take (i := 12) (v := ?_) rfl rfl (by kernel_rfl) (by kernel_rfl) (by kernel_rfl) (fun _ _ _ h => h) (by rfl) HB4.out ?_ ?_
          rotate_left
          · intro W hW
            go_simp
            try with_reducible rfl
          simp only [Act.put, List.setIfInBounds_toArray]
          refine heldS_call (i := 13) (by kernel_rfl) rfl (fun K' hK => ?_)
          go_simp
          refine hK.out _ _ (HB4.out.setCell (Nat.le_refl _) _) ?_
          clear hK K'
          refine wpAnyH_done (by kernel_rfl) ?_ _
          go_wp2
          go_roundw
          case rel => exact ⟨k + 1, B4, c4, by go_num, by omega, HC4.out, HO4.out, HB4.out.setCell (Nat.le_refl _) _⟩
          case measure => (simp [intOf] <;> omega)
    · have hk' : k = h := by omega
      subst hk'
      have q0 := HC.out.cell 0
      have q1 := HC.out.cell 1
      have q2 := HC.out.cell 2
      have hC8 := HC0.out.below HB.out hlt1
      have r0 := hC8.cell 0
      have r1 := hC8.cell 1
      have r2 := hC8.cell 2
      have f0 := hC8.free 0
      have f1 := hC8.free 1
      have f2 := hC8.free 2
      simp only [List.getElem?_cons_succ, List.getElem?_cons_zero] at q0 q1 q2 r0 r1 r2
      have HO8 := Lib.hid (owns_below HO1.out HB.out)
      clear hC8
      go_wp2
      have hf : ∀ (W : World) (base : Nat) (v : Value) (n : Nat) (xs : List Value), W.ownsRow base 22 1 v n xs → w.heap.size < base → (((W.setCell ⟨w.heap.size, 0, none⟩ (.int .i64 (l : Int))).setCell ⟨w.heap.size, 1, none⟩ (.slice A 18 c)).setCell ⟨w.heap.size, 2, none⟩ (.slice B k c2)).ownsRow base 22 1 v n xs := fun W base v n xs h hb =>
        ownsRow_setCell_below (ownsRow_setCell_below (ownsRow_setCell_below h (a := ⟨w.heap.size, 0, none⟩) hb _) (a := ⟨w.heap.size, 1, none⟩) hb _) (a := ⟨w.heap.size, 2, none⟩) hb _
      obtain ⟨A', c', e', hWA⟩ := own_words (hf _ _ _ _ _ HO8.out (by simp))
      cases e'
      obtain ⟨B', c', e', hWB⟩ := own_words (hf _ _ _ _ _ HO.out (by omega))
      cases e'
      refine bodyPost_ret (v := .tuple #[.agg #[.int .i64 (l : Int), .slice A 18 c, .slice B k c2], .int .i64 0]) (by simp [results, Try.results14, go_sem, r0, r1, r2]) rfl ⟨A, c, B, c2, rfl, hWA, hWB, ?_⟩
      exact (((HB1.out.trans (HB.out.mono hs1)).setCell (p := ⟨w.heap.size, 0, none⟩) (Nat.le_refl _) _).setCell (p := ⟨w.heap.size, 1, none⟩) (Nat.le_refl _) _).setCell (p := ⟨w.heap.size, 2, none⟩) (Nat.le_refl _) _
end Go.Proofs.Ythgahjihgoiklaa
