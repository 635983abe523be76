/- Words of bytes: treekey.words over slices.Chunk. -/
import Derived.Test.YthgahjihgoiklaaTkT
namespace Go.Proofs.Ythgahjihgoiklaa
open Go.RowKit Go.Shelf
set_option maxRecDepth 100000
attribute [local go_sem] Oper.semAt_some

theorem chunk_any (A : Option Addr) (n c : Nat) (w : World) :
    Calls Try.prog 67 #[.slice A n c, .int .i64 8] w fun e w' => e = .returned (.func (.func 70) #[] #[.pointer (some ⟨w.heap.size, 0, none⟩), .pointer (some ⟨w.heap.size + 1, 0, none⟩)]) ∧ w' = (w.alloc (.cells #[.slice A n c] 43)).alloc (.cells #[.int .i64 8] 3) := by
  go_enter Try.func67, Try.ntmps67
  go_wp2
  go_ret
  exact ⟨rfl, rfl⟩
/-- the boxes of the iterator; what lay there stays -/
def VC (A : Option Addr) (n c B : Nat) (w0 : World) (_k _g : Nat) (W : World) : Prop :=
  Cs W B 43 [.slice A n c] ∧ Cs W (B + 1) 3 [.int .i64 8] ∧ Below w0.heap.size w0 W
def argsC (A : Option Addr) (k _g : Nat) : Array Value := #[.slice (A.map (·.add (8 * k))) 8 8]
set_option maxHeartbeats 2000000 in
theorem chunk_seq (m : Nat) (hm : 1 ≤ m) (A : Option Addr) (N c B : Nat) (zs : List Int) (w0 w : World) (hz : Bytes w0 A (8 * N) zs) (hc : 8 * N ≤ c) (hN : N ≤ 1000) (hb0 : Below w0.heap.size w0 w)
    (hB1 : Cs w B 43 [.slice A (8 * N) c]) (hB2 : Cs w (B + 1) 3 [.int .i64 8]) :
    SeqV Fence.wide m Try.prog 70 #[.pointer (some ⟨B, 0, none⟩), .pointer (some ⟨B + 1, 0, none⟩)] (argsC A) (VC A (8 * N) c B w0) N w := by
  intro l J Jx W hW hJ hJx hY h0
  have HV1 : Hid (VC A (8 * N) c B w0 0 0 W) := Lib.hid ⟨hB1.below hW hB1.lt, hB2.below hW hB2.lt, hb0.trans (hW.mono hb0.size)⟩
  have HJ := Lib.hid hJ
  have HJx := Lib.hid hJx
  have HY := Lib.hid hY
  have HZ := Lib.hid hz
  have HJ1 : Hid (∃ A0, J 0 A0 ∧ Below A0.heap.size A0 W) := Lib.hid ⟨W, h0, Below.refl _ _⟩
  obtain ⟨n, hn⟩ : ∃ n, 8 * N = n := ⟨_, rfl⟩
  rw [hn] at HV1 HY HZ hc
  have HNN := Lib.hid hn
  clear hB1 hB2 hW hJ hJx hY h0 hb0 hz hn
  refine callsIn_of_wp Try.func70 rfl trivial ?_ rfl
  simp only [Try.ntmps70, List.size_toArray, List.length_cons, List.length_nil, Nat.reduceAdd, Nat.reduceSub, Array.replicate_succ, Array.replicate_zero, List.push_toArray, List.append_toArray, List.nil_append, List.cons_append]
  gi_wp2_with fail
  gi_loopw [4] (fun i wr => ∃ k i' : Nat, k ≤ N ∧ i = .int .i64 (i' : Int) ∧ Hid (i' = 8 * k) ∧ Hid (VC A n c B w0 0 0 wr) ∧ Hid (∃ A0, J k A0 ∧ Below A0.heap.size A0 wr))
    (fun i _ => n - (intOf i).toNat)
  case atStart => exact ⟨0, 0, Nat.zero_le _, rfl, Lib.hid rfl, HV1, HJ1⟩
  case round =>
    obtain ⟨k, i, hk, rfl, HI, HV, HA⟩ := hrel
    have c1 := HV.out.1.cell 0
    have c2 := HV.out.2.1.cell 0
    simp only [List.getElem?_cons_zero] at c1 c2
    by_cases hkN : k < N
    · have hi1 : i + 8 ≤ n := by have := HI.out; have := HNN.out; omega
      have hib : i ≤ 8000 := by have := HI.out; omega
      have hiI : (i : Int) < (n : Int) := by omega
      have hii : i ≤ n := by omega
      have hic : i ≤ c := by omega
      have hinc : (n : Int) ≤ (c : Int) := by omega
      have hmin : ¬ ((n - i : Nat) : Int) < 8 := by omega
      obtain ⟨j, hj⟩ : ∃ j : Nat, i + 8 = j := ⟨_, rfl⟩
      have hwj : wrap64 ((i : Int) + 8) = (j : Int) := by unfold wrap64; omega
      have hji : ¬ j = i := by omega
      have hij : i ≤ j := by omega
      have hjc : j ≤ c := by omega
      have hj8 : j - i = 8 := by omega
      have hjcI : (j : Int) ≤ (c : Int) := by omega
      have hijI : (i : Int) ≤ (j : Int) := by omega
      have hci : ¬ c = i := by omega
      have HJJ := Lib.hid hj
      clear hj
      obtain ⟨a, rfl, _⟩ := HZ.out.at_ i (by omega)
      gi_wp2
      refine wide_region_held (S := (fun W' : World => Cs W' B 43 [.slice (some a) n c] ∧ Cs W' (B + 1) 3 [.int .i64 8])) (by kernel_rfl) (by kernel_rfl) ?_
      have HS0 : Hid (Cs wr.drew B 43 [.slice (some a) n c] ∧ Cs wr.drew (B + 1) 3 [.int .i64 8]) := Lib.hid ⟨HV.out.1.drew, HV.out.2.1.drew⟩
      refine heldS_take (i := 0) (v := ?_) rfl rfl (by kernel_rfl) (by kernel_rfl) (by kernel_rfl) (fun _ _ _ h => h) (by rfl) HS0.out ?_ ?_
      rotate_left
      · intro W' hW'
        have e1 := hW'.1.cell 0
        have e2 := hW'.2.cell 0
        simp only [List.getElem?_cons_zero] at e1 e2
        go_simp
        try with_reducible rfl
      simp only [Act.put, List.setIfInBounds_toArray, List.set_cons_zero, List.set_cons_succ]
      refine heldS_take (i := 1) (v := ?_) rfl rfl (by kernel_rfl) (by kernel_rfl) (by kernel_rfl) (fun _ _ _ h => h) (by rfl) HS0.out ?_ ?_
      rotate_left
      · intro W' hW'
        have e1 := hW'.1.cell 0
        have e2 := hW'.2.cell 0
        simp only [List.getElem?_cons_zero] at e1 e2
        go_simp
        try with_reducible rfl
      simp only [Act.put, List.setIfInBounds_toArray, List.set_cons_zero, List.set_cons_succ]
      refine heldS_take (i := 2) (v := ?_) rfl rfl (by kernel_rfl) (by kernel_rfl) (by kernel_rfl) (fun _ _ _ h => h) (by rfl) HS0.out ?_ ?_
      rotate_left
      · intro W' hW'
        go_simp
        try with_reducible rfl
      simp only [Act.put, List.setIfInBounds_toArray, List.set_cons_zero, List.set_cons_succ]
      refine heldS_take (i := 3) (v := ?_) rfl rfl (by kernel_rfl) (by kernel_rfl) (by kernel_rfl) (fun _ _ _ h => h) (by rfl) HS0.out ?_ ?_
      rotate_left
      · intro W' hW'
        go_simp
        try with_reducible rfl
      simp only [Act.put, List.setIfInBounds_toArray, List.set_cons_zero, List.set_cons_succ]
      refine heldS_take (i := 4) (v := ?_) rfl rfl (by kernel_rfl) (by kernel_rfl) (by kernel_rfl) (fun _ _ _ h => h) (by rfl) HS0.out ?_ ?_
      rotate_left
      · intro W' hW'
        go_simp
        try with_reducible rfl
      simp only [Act.put, List.setIfInBounds_toArray, List.set_cons_zero, List.set_cons_succ]
      refine heldS_take (i := 5) (v := ?_) rfl rfl (by kernel_rfl) (by kernel_rfl) (by kernel_rfl) (fun _ _ _ h => h) (by rfl) HS0.out ?_ ?_
      rotate_left
      · intro W' hW'
        go_simp
        try with_reducible rfl
      simp only [Act.put, List.setIfInBounds_toArray, List.set_cons_zero, List.set_cons_succ]
      refine heldS_call (i := 6) (by kernel_rfl) rfl (fun K' hK => ?_)
      go_simp
      refine hK.out _ _ HS0.out ?_
      clear hK K'
      refine heldN_done (by kernel_rfl) ?_ _
      obtain ⟨A0, hA1, hA2⟩ := HA.out
      obtain ⟨fn, tmps, assign, body, hy, hR⟩ := HY.out k A0.heap.size A0 wr.drew hkN hA1 hA2.drew (Nat.le_refl _) ⟨HV.out.1.drew, HV.out.2.1.drew, HV.out.2.2.drew⟩
      dsimp only [argsC] at hy hR
      rw [← HI.out] at hy
      simp only [Option.map_some] at hy
      have hq : ¬ ((n - i : Nat) : Int) < 8 := by omega
      simp only [if_neg hq]
      clear hq
      have HR := Lib.hid hR
      clear hR hA1 hA2
      gi_wp2
      refine HR.out.mono ?_
      rintro e W3 (⟨rfl, hJ3, hV3⟩ | ⟨rfl, hJx3⟩)
      · have HJ3 : Hid (∃ A0, J (k + 1) A0 ∧ Below A0.heap.size A0 W3) := Lib.hid ⟨W3, hJ3, Below.refl _ _⟩
        have HV3 : Hid (VC (some a) n c B w0 0 0 W3) := Lib.hid hV3
        have c3 : W3.cell? ⟨B + 1, 0, none⟩ = some (.int .i64 8) := by rw [hV3.2.1.cell]; rfl
        clear hJ3 hV3 hy c1 c2
        gi_wp2
        go_roundw
        case rel => exact ⟨k + 1, i + 8, by omega, by go_num, Lib.hid (by have := HI.out; omega), HV3, HJ3⟩
        case measure => (simp [intOf] <;> omega)
      · gi_wp2
        exact bodyPost_ret (v := .tuple #[]) (results_none (by kernel_rfl) _ _ _) rfl ⟨⟨_, rfl⟩, .inr hJx3⟩
    · have hik : i = n := by have := HI.out; have := HNN.out; omega
      have hiI : ¬ (i : Int) < (n : Int) := by omega
      obtain ⟨A0, hA1, hA2⟩ := HA.out
      have hkk : k = N := by omega
      rw [hkk] at hA1
      have HE := Lib.hid (HJ.out N A0 wr hA1 hA2)
      clear hA1 hA2 hik hkk
      gi_wp2
      go_end0
      exact ⟨⟨_, rfl⟩, .inl HE.out⟩
end Go.Proofs.Ythgahjihgoiklaa
