/- The level above a level. -/
import Derived.Test.YthgahjihgoiklaaTkB
import Derived.IntWalk
namespace Go.Proofs.Ythgahjihgoiklaa
open Go.RowKit
set_option maxRecDepth 100000

set_option maxHeartbeats 1000000 in
theorem parents_any (z : Int) (A : Option Addr) (c N M : Nat) (ws : List (BitVec 64)) (w : World) (hw : Ws w A M ws) (hM : M = 2 * N) (hN : N ≤ 1000) :
    Calls Try.prog 47 #[.int .i64 z, .slice A M c] w fun e w' => ∃ g, e = .returned (.slice (some ⟨g, 0, none⟩) N N) ∧ Cs w' g 22 (wv ((List.range N).map fun i => nodeF z (ws.getD (2 * i) 0) (ws.getD (2 * i + 1) 0))) ∧ w.heap.size ≤ g ∧ Below w.heap.size w w' := by
  have HW := Lib.hid hw
  have HM := Lib.hid hM
  have hdiv : (M : Int) / 2 = (N : Int) := by omega
  obtain ⟨f, hf⟩ : ∃ f : Nat → BitVec 64, f = fun i => nodeF z (ws.getD (2 * i) 0) (ws.getD (2 * i + 1) 0) := ⟨_, rfl⟩
  rw [← hf]
  have HF := Lib.hid hf
  have hmk := fun w => make_words N f (by omega) w
  clear hw hM hf
  go_enter Try.func47, Try.ntmps47
  go_wp2
  have HZ := Lib.hid (Cs.new w 22 (wv (fillTo 0#64 N f 0)))
  clear hmk hdiv
  go_loopw [13] (fun i wr => ∃ k : Nat, i = .int .i64 k ∧ k ≤ N ∧ Cs wr w.heap.size 22 (wv (fillTo 0#64 N f k)) ∧ Below w.heap.size w wr) (fun i _ => N - (intOf i).toNat)
  case atStart => exact ⟨0, rfl, Nat.zero_le _, HZ.out, (Below.refl _ w).alloc (Nat.le_refl _) _⟩
  case round =>
    obtain ⟨k, rfl, hk, hC, hbk⟩ := hrel
    have hsz := hbk.size
    have hlt := hC.lt
    have HC := Lib.hid hC
    have HB := Lib.hid hbk
    clear hC hbk
    by_cases hkN : k < N
    · have hM := HM.out
      obtain ⟨p, hp⟩ : ∃ p : Nat, p = 2 * k := ⟨_, rfl⟩
      obtain ⟨q, hq⟩ : ∃ q : Nat, q = 2 * k + 1 := ⟨_, rfl⟩
      obtain ⟨a0, rfl, _⟩ := HW.out.at_ p (by omega)
      have hkI : (k : Int) < (N : Int) := by omega
      have hk0 : (0 : Int) ≤ (k : Int) := by omega
      have hpM : (p : Int) < (M : Int) := by omega
      have hqM : (q : Int) < (M : Int) := by omega
      have hp0 : (0 : Int) ≤ (p : Int) := by omega
      have hq0 : (0 : Int) ≤ (q : Int) := by omega
      have hcp : ∀ W, Below w.heap.size w W → W.cell? (a0.add p) = some (.int .u64 (val (ws.getD p 0))) := fun W hW => by
        obtain ⟨a, e, hc⟩ := (HW.out.below hW).at_ p (by omega)
        cases e; exact hc
      have hcq : ∀ W, Below w.heap.size w W → W.cell? (a0.add q) = some (.int .u64 (val (ws.getD q 0))) := fun W hW => by
        obtain ⟨a, e, hc⟩ := (HW.out.below hW).at_ q (by omega)
        cases e; exact hc
      have hfk : f k = nodeF z (ws.getD p 0) (ws.getD q 0) := by rw [HF.out, hp, hq]
      have HFK := Lib.hid hfk
      have HCP := Lib.hid hcp
      have HCQ := Lib.hid hcq
      have hw1 : IntKind.i64.wrap (2 * (k : Int)) = (p : Int) := by rw [IntKind.wrap_i64]; omega
      have hw2 : IntKind.i64.wrap ((p : Int) + 1) = (q : Int) := by rw [IntKind.wrap_i64]; omega
      generalize ws.getD p 0 = xp at *
      generalize ws.getD q 0 = xq at *
      clear hcp hcq hfk hM hp hq
      go_wp2
      refine wp_region_held (S := fun W => Below w.heap.size w W) (by kernel_rfl) ?_
      refine heldS_take (i := 0) (v := ?_) rfl rfl (by kernel_rfl) (by kernel_rfl) (by kernel_rfl) (fun _ _ _ h => h) (by rfl) HB.out.drew ?_ ?_
      rotate_left
      · intro W hW
        go_simp
        try with_reducible rfl
      simp only [Act.put, List.setIfInBounds_toArray, List.set_cons_zero, List.set_cons_succ]
      refine heldS_take (i := 1) (v := ?_) rfl rfl (by kernel_rfl) (by kernel_rfl) (by kernel_rfl) (fun _ _ _ h => h) (by rfl) HB.out.drew ?_ ?_
      rotate_left
      · intro W hW
        go_simp
        try with_reducible rfl
      simp only [Act.put, List.setIfInBounds_toArray, List.set_cons_zero, List.set_cons_succ]
      refine heldS_take (i := 2) (v := ?_) rfl rfl (by kernel_rfl) (by kernel_rfl) (by kernel_rfl) (fun _ _ _ h => h) (by rfl) HB.out.drew ?_ ?_
      rotate_left
      · intro W hW
        go_simp
        try with_reducible rfl
      simp only [Act.put, List.setIfInBounds_toArray, List.set_cons_zero, List.set_cons_succ]
      refine heldS_take (i := 3) (v := ?_) rfl rfl (by kernel_rfl) (by kernel_rfl) (by kernel_rfl) (fun _ _ _ h => h) (by rfl) HB.out.drew ?_ ?_
      rotate_left
      · intro W hW
        go_simp
        try with_reducible rfl
      simp only [Act.put, List.setIfInBounds_toArray, List.set_cons_zero, List.set_cons_succ]
      refine heldS_take (i := 4) (v := ?_) rfl rfl (by kernel_rfl) (by kernel_rfl) (by kernel_rfl) (fun _ _ _ h => h) (by rfl) HB.out.drew ?_ ?_
      rotate_left
      · intro W hW
        go_simp
        try with_reducible rfl
      simp only [Act.put, List.setIfInBounds_toArray, List.set_cons_zero, List.set_cons_succ]
      refine heldS_take (i := 5) (v := ?_) rfl rfl (by kernel_rfl) (by kernel_rfl) (by kernel_rfl) (fun _ _ _ h => h) (by rfl) HB.out.drew ?_ ?_
      rotate_left
      · intro W hW
        go_simp
        try with_reducible rfl
      simp only [Act.put, List.setIfInBounds_toArray, List.set_cons_zero, List.set_cons_succ]
      refine heldS_take (i := 6) (v := ?_) rfl rfl (by kernel_rfl) (by kernel_rfl) (by kernel_rfl) (fun _ _ _ h => h) (by rfl) HB.out.drew ?_ ?_
      rotate_left
      · intro W hW
        go_simp
        try with_reducible rfl
      simp only [Act.put, List.setIfInBounds_toArray, List.set_cons_zero, List.set_cons_succ]
      refine heldS_take (i := 7) (v := ?_) rfl rfl (by kernel_rfl) (by kernel_rfl) (by kernel_rfl) (fun _ _ _ h => h) (by rfl) HB.out.drew ?_ ?_
      rotate_left
      · intro W hW
        have hc := HCP.out W hW
        go_simp
        try with_reducible rfl
      simp only [Act.put, List.setIfInBounds_toArray, List.set_cons_zero, List.set_cons_succ]
      refine heldS_take (i := 8) (v := ?_) rfl rfl (by kernel_rfl) (by kernel_rfl) (by kernel_rfl) (fun _ _ _ h => h) (by rfl) HB.out.drew ?_ ?_
      rotate_left
      · intro W hW
        go_simp
        try with_reducible rfl
      simp only [Act.put, List.setIfInBounds_toArray, List.set_cons_zero, List.set_cons_succ]
      refine heldS_take (i := 9) (v := ?_) rfl rfl (by kernel_rfl) (by kernel_rfl) (by kernel_rfl) (fun _ _ _ h => h) (by rfl) HB.out.drew ?_ ?_
      rotate_left
      · intro W hW
        go_simp
        try with_reducible rfl
      simp only [Act.put, List.setIfInBounds_toArray, List.set_cons_zero, List.set_cons_succ]
      refine heldS_take (i := 10) (v := ?_) rfl rfl (by kernel_rfl) (by kernel_rfl) (by kernel_rfl) (fun _ _ _ h => h) (by rfl) HB.out.drew ?_ ?_
      rotate_left
      · intro W hW
        go_simp
        try with_reducible rfl
      simp only [Act.put, List.setIfInBounds_toArray, List.set_cons_zero, List.set_cons_succ]
      refine heldS_take (i := 11) (v := ?_) rfl rfl (by kernel_rfl) (by kernel_rfl) (by kernel_rfl) (fun _ _ _ h => h) (by rfl) HB.out.drew ?_ ?_
      rotate_left
      · intro W hW
        go_simp
        try with_reducible rfl
      simp only [Act.put, List.setIfInBounds_toArray, List.set_cons_zero, List.set_cons_succ]
      refine heldS_take (i := 12) (v := ?_) rfl rfl (by kernel_rfl) (by kernel_rfl) (by kernel_rfl) (fun _ _ _ h => h) (by rfl) HB.out.drew ?_ ?_
      rotate_left
      · intro W hW
        go_simp
        try with_reducible rfl
      simp only [Act.put, List.setIfInBounds_toArray, List.set_cons_zero, List.set_cons_succ]
      refine heldS_take (i := 13) (v := ?_) rfl rfl (by kernel_rfl) (by kernel_rfl) (by kernel_rfl) (fun _ _ _ h => h) (by rfl) HB.out.drew ?_ ?_
      rotate_left
      · intro W hW
        have hc := HCQ.out W hW
        go_simp
        try with_reducible rfl
      simp only [Act.put, List.setIfInBounds_toArray, List.set_cons_zero, List.set_cons_succ]
      refine heldS_call (i := 14) (by kernel_rfl) rfl (fun K' hK => ?_)
      go_simp
      refine (node_any z xp xq _).mono ?_
      rintro e w1 ⟨rfl, hb⟩
      have hS : Below w.heap.size w w1 := HB.out.drew.trans (hb.mono hsz)
      refine hK.out _ _ hS ?_
      clear hK K'
      obtain ⟨c1, c2, c3⟩ := fill_setN HC.out.drew hb hlt hkN
      have HC3 := Lib.hid c3
      have HB1 := Lib.hid hS
      clear c3 hb hS
      rw [← HFK.out]
      refine heldS_take (i := 15) (v := ?_) rfl rfl (by kernel_rfl) (by kernel_rfl) (by kernel_rfl) (fun _ _ _ h => h) (by rfl) HB1.out ?_ ?_
      rotate_left
      · intro W hW
        go_simp
        try with_reducible rfl
      simp only [Act.put, List.setIfInBounds_toArray, List.set_cons_zero, List.set_cons_succ]
      refine heldS_call (i := 16) (by kernel_rfl) rfl (fun K' hK => ?_)
      go_simp
      refine hK.out _ _ (HB1.out.setCell (Nat.le_refl _) _) ?_
      clear hK K'
      refine wpAnyH_done (by kernel_rfl) ?_ _
      go_wp2
      go_roundw
      case rel => exact ⟨k + 1, by go_num, by omega, HC3.out, HB1.out.setCell (Nat.le_refl _) _⟩
      case measure => (simp [intOf] <;> omega)
    · have hk' : k = N := by omega
      subst hk'
      have hC := HC.out
      rw [fillTo_all] at hC
      go_wp2
      go_ret
      exact ⟨_, rfl, hC, Nat.le_refl _, HB.out⟩
end Go.Proofs.Ythgahjihgoiklaa
