/- treekey.words: the words of bytes. -/
import Derived.Test.YthgahjihgoiklaaTkW
import Derived.Test.YthgahjihgoiklaaTkH
namespace Go.Proofs.Ythgahjihgoiklaa
open Go.RowKit Go.Shelf
set_option maxRecDepth 100000
attribute [local go_sem] Oper.semAt_some

/-- the eight bytes of word k, the words of N times eight bytes -/
def chunkB (zs : List Int) (k : Nat) : List Int := (zs.drop (8 * k)).take 8
def rdWs (zs : List Int) (N : Nat) : List (BitVec 64) := (List.range N).map fun k => rdF (chunkB zs k) 8
theorem rdWs_succ (zs : List Int) (k : Nat) : rdWs zs k ++ [rdF (chunkB zs k) 8] = rdWs zs (k + 1) := by simp [rdWs, List.range_succ]
theorem rdWs_len (zs : List Int) (N : Nat) : (rdWs zs N).length = N := by simp [rdWs]
theorem Bytes.chunk {w : World} {A : Option Addr} {N : Nat} {zs : List Int} (h : Bytes w A (8 * N) zs) (k : Nat) (hk : k < N) : Bytes w (A.map (·.add (8 * k))) 8 (chunkB zs k) := by
  have hd := h.drop (cap := 8 * N + 1) (8 * k) (by omega) (by omega)
  rw [if_neg (by omega)] at hd
  exact hd.take 8 (by omega)
set_option maxHeartbeats 4000000 in
theorem words_read (A : Option Addr) (N c : Nat) (zs : List Int) (w : World) (hz : Bytes w A (8 * N) zs) (hc : 8 * N ≤ c) (hN : N ≤ 1000) :
    Calls Try.prog 60 #[.slice A (8 * N) c] w fun e w' => ∃ v, e = .returned v ∧ w'.ownsRow w.heap.size 22 1 v N (wv (rdWs zs N)) ∧ Below w.heap.size w w' := by
  have HZ := Lib.hid hz
  refine (callsIn_wide (n := 4)).1 ?_
  refine callsIn_of_wp_marks Try.func60 rfl trivial ?_ rfl
  simp only [Try.ntmps60, List.size_toArray, List.length_cons, List.length_nil, Nat.reduceAdd, Nat.reduceSub, Array.replicate_succ, Array.replicate_zero, List.push_toArray, List.append_toArray, List.nil_append, List.cons_append]
  gi_wp2_with fail
  refine ⟨trivial, (callsIn_wide.2 (chunk_any A (8 * N) c _)).mono ?_⟩
  rintro e w1 ⟨rfl, rfl⟩
  gi_wp2
  refine three_world _ _ _ [.slice none 0 0] [.slice A (8 * N) c] [.int .i64 8] ?_
  intro W0 hc1 hc2 hc3 hsz0 hb0
  refine wpIn_rangeV rfl (by omega) (gf := 70) (lb := #[.pointer (some ⟨w.heap.size + 1, 0, none⟩), .pointer (some ⟨w.heap.size + 1 + 1, 0, none⟩)]) rfl trivial (enters_of Try.func70 (by kernel_rfl) rfl)
    (chunk_seq (4 - 1) (by omega) A N c (w.heap.size + 1) zs w W0 hz hc hN hb0 hc2 hc3) (Below.refl _ _) (fun _ _ => rfl)
    (fun k W => (∃ B c2, Cs W w.heap.size 30 [.slice B k c2] ∧ W.ownsRow W0.heap.size 22 1 (.slice B k c2) k (wv (rdWs zs k))) ∧ Below w.heap.size w W ∧ W0.heap.size ≤ W.heap.size)
    (fun _ _ _ => False)
    (fun _ => fun W W' ⟨⟨B, c2, h1, h2⟩, h3, h4⟩ hs => ⟨⟨B, c2, hs.cells _ _ h1 rfl, own_abide _ _ h2 hs⟩, h3.trans (hs.below.mono (by omega)), Nat.le_trans h4 hs.below.size⟩)
    (fun _ _ => Abide.pure _)
    (fun _ _ => Cs.abide.and (Cs.abide.and (Abide.below' w (by omega))))
    ⟨⟨none, 0, hc1, World.ownsRow_nil _ _ _ _⟩, hb0, Nat.le_refl _⟩
    (fun k g => { tmps := #[.slice A (8 * N) c, undef, .slice none 0 0, .pointer (some ⟨w.heap.size, 0, none⟩), .slice (A.map (·.add (8 * k))) 8 8, .slice A (8 * N) c, .func (.func 70) #[] #[.pointer (some ⟨w.heap.size + 1, 0, none⟩), .pointer (some ⟨w.heap.size + 1 + 1, 0, none⟩)], .slice (A.map (·.add (8 * k))) 8 8, undef, undef, undef, undef, undef, undef], defers := [] }) ?assign ?body ?done ?stop
  case assign =>
    intro l' k g' W K hK
    dsimp only [argsC]
    gi_wp2
    exact hK
  case body =>
    rintro l' k g' W1 W hk ⟨⟨B, c2, hC1, hO1⟩, hb1, hw0⟩ hs hfr hv
    have hrow := hO1.lt
    have HC := Lib.hid (hs.cs hC1)
    have HO := Lib.hid (own_abide _ _ hO1 hs)
    have HBw := Lib.hid (hb1.trans (hs.below.mono (by omega)))
    have HV := Lib.hid hv
    have HRow := Lib.hid hrow
    have hsz := Nat.le_trans hw0 hs.below.size
    have HBy := Lib.hid ((HZ.out.chunk k hk).below (HBw.out.drew))
    obtain ⟨x, hx⟩ : ∃ x, rdF (chunkB zs k) 8 = x := ⟨_, rfl⟩
    have HXX := Lib.hid hx
    generalize A.map (·.add (8 * k)) = A8 at *
    clear hrow hC1 hO1 hb1 hs hv hx
    gi_wp2
    refine round_region_held (S := fun _ => True) (by kernel_rfl) (by kernel_rfl) ?_
    refine heldS_take (i := 1) (v := ?_) rfl rfl (by kernel_rfl) (by kernel_rfl) (by kernel_rfl) (fun _ _ _ h => h) (by rfl) trivial ?_ ?_
    rotate_left
    · intro W' hW'
      go_simp
      try with_reducible rfl
    simp only [Act.put, List.setIfInBounds_toArray, List.set_cons_zero, List.set_cons_succ]
    refine heldS_two (i := 0) (j := 2) (by kernel_rfl) rfl rfl (fun K' hK => ?_) (fun K' hK => ?_)
    · have cp := HC.out.drew.cell 0
      simp only [List.getElem?_cons_zero] at cp
      go_simp
      refine hK.out _ _ trivial ?_
      clear hK K' cp
      refine heldS_call (i := 2) (by kernel_rfl) rfl (fun K' hK => ?_)
      go_simp
      refine (word_any _ 8 8 _ _ HBy.out (by omega)).mono ?_
      rintro e w' ⟨rfl, rfl⟩
      rw [HXX.out]
      refine hK.out _ _ trivial ?_
      clear hK K'
      refine heldS_call (i := 3) (by kernel_rfl) rfl (fun K' hK => ?_)
      go_simp
      refine hK.out _ _ trivial ?_
      clear hK K'
      refine heldS_call (i := 4) (by kernel_rfl) rfl (fun K' hK => ?_)
      have hne0 : (Value.slice B k c2).ownBlock ≠ some w.heap.size := fun e => by have := (HRow.out _ e).1; omega
      have hne1 : (Value.slice B k c2).ownBlock ≠ some (w.heap.size + 1) := fun e => by have := (HRow.out _ e).1; omega
      have hne2 : (Value.slice B k c2).ownBlock ≠ some (w.heap.size + 1 + 1) := fun e => by have := (HRow.out _ e).1; omega
      refine step_words2 rfl _ _ rfl W0.heap.size _ k (rdWs zs k) x W.drew.heap.size (HO.out.drew.alloc _) rfl (Ws.one W.drew _) rfl (by omega) (by simp; omega) ?_
      intro v4 w4 ho4 hb4 hg4
      have HX4 := Lib.hid (((HC.out.drew).grow (.cells #[.int .u64 (val x)] 22)).grown hg4 hne0)
      have HU4 := Lib.hid (((HV.out.1.drew).grow (.cells #[.int .u64 (val x)] 22)).grown hg4 hne1)
      have HT4 := Lib.hid (((HV.out.2.1.drew).grow (.cells #[.int .u64 (val x)] 22)).grown hg4 hne2)
      have HKo := Lib.hid (((KeepsOthers.drew W).trans (KeepsOthers.alloc W.drew (.cells #[.int .u64 (val x)] 22))).trans (own_keeps (HO.out.drew.alloc _) hg4))
      have HB4 := Lib.hid ((HBw.out.drew.alloc (by simp; omega) (.cells #[.int .u64 (val x)] 22)).trans (hb4.mono (by omega)))
      refine hK.out _ _ trivial ?_
      clear hK K' hne0 hne1 hne2
      obtain ⟨B4, c4, rfl, _⟩ := own_words ho4
      rw [← HXX.out, rdWs_succ] at ho4
      have HO4 := Lib.hid (ownsRow_setCell_below ho4 (a := ⟨w.heap.size, 0, none⟩) (by simp; omega) (.slice B4 (k + 1) c4))
      have c4a := HX4.out.cell 0
      have f4a := HX4.out.free 0
      simp only [List.getElem?_cons_zero] at c4a
      have hs4 : W0.heap.size ≤ w4.heap.size := Nat.le_trans hsz (Nat.le_trans (by simp) hb4.size)
      clear ho4 hb4 hg4
      refine heldS_call (i := 5) (by kernel_rfl) rfl (fun K' hK => ?_)
      go_simp
      refine hK.out _ _ trivial ?_
      clear hK K'
      refine heldN_done (by kernel_rfl) ?_ _
      gi_wp2
      refine ⟨(HKo.out.trans (KeepsOthers.setCell _ _ _)).from _, ⟨⟨B4, c4, HX4.out.set_ 0 _, HO4.out⟩, HB4.out.setCell (Nat.le_refl _) _, by simpa using hs4⟩, ?_⟩
      exact ⟨HU4.out.far_set 0 _ (by omega), HT4.out.far_set 0 _ (by omega), HB4.out.setCell (Nat.le_refl _) _⟩
    · go_simp
      refine (word_any _ 8 8 _ _ HBy.out (by omega)).mono ?_
      rintro e w' ⟨rfl, rfl⟩
      rw [HXX.out]
      refine hK.out _ _ trivial ?_
      clear hK K'
      refine heldS_two (i := 0) (j := 3) (by kernel_rfl) rfl rfl (fun K' hK => ?_) (fun K' hK => ?_)
      · have cp := HC.out.drew.cell 0
        simp only [List.getElem?_cons_zero] at cp
        go_simp
        refine hK.out _ _ trivial ?_
        clear hK K' cp
        refine heldS_call (i := 3) (by kernel_rfl) rfl (fun K' hK => ?_)
        go_simp
        refine hK.out _ _ trivial ?_
        clear hK K'
        refine heldS_call (i := 4) (by kernel_rfl) rfl (fun K' hK => ?_)
        have hne0 : (Value.slice B k c2).ownBlock ≠ some w.heap.size := fun e => by have := (HRow.out _ e).1; omega
        have hne1 : (Value.slice B k c2).ownBlock ≠ some (w.heap.size + 1) := fun e => by have := (HRow.out _ e).1; omega
        have hne2 : (Value.slice B k c2).ownBlock ≠ some (w.heap.size + 1 + 1) := fun e => by have := (HRow.out _ e).1; omega
        refine step_words2 rfl _ _ rfl W0.heap.size _ k (rdWs zs k) x W.drew.heap.size (HO.out.drew.alloc _) rfl (Ws.one W.drew _) rfl (by omega) (by simp; omega) ?_
        intro v4 w4 ho4 hb4 hg4
        have HX4 := Lib.hid (((HC.out.drew).grow (.cells #[.int .u64 (val x)] 22)).grown hg4 hne0)
        have HU4 := Lib.hid (((HV.out.1.drew).grow (.cells #[.int .u64 (val x)] 22)).grown hg4 hne1)
        have HT4 := Lib.hid (((HV.out.2.1.drew).grow (.cells #[.int .u64 (val x)] 22)).grown hg4 hne2)
        have HKo := Lib.hid (((KeepsOthers.drew W).trans (KeepsOthers.alloc W.drew (.cells #[.int .u64 (val x)] 22))).trans (own_keeps (HO.out.drew.alloc _) hg4))
        have HB4 := Lib.hid ((HBw.out.drew.alloc (by simp; omega) (.cells #[.int .u64 (val x)] 22)).trans (hb4.mono (by omega)))
        refine hK.out _ _ trivial ?_
        clear hK K' hne0 hne1 hne2
        obtain ⟨B4, c4, rfl, _⟩ := own_words ho4
        rw [← HXX.out, rdWs_succ] at ho4
        have HO4 := Lib.hid (ownsRow_setCell_below ho4 (a := ⟨w.heap.size, 0, none⟩) (by simp; omega) (.slice B4 (k + 1) c4))
        have c4a := HX4.out.cell 0
        have f4a := HX4.out.free 0
        simp only [List.getElem?_cons_zero] at c4a
        have hs4 : W0.heap.size ≤ w4.heap.size := Nat.le_trans hsz (Nat.le_trans (by simp) hb4.size)
        clear ho4 hb4 hg4
        refine heldS_call (i := 5) (by kernel_rfl) rfl (fun K' hK => ?_)
        go_simp
        refine hK.out _ _ trivial ?_
        clear hK K'
        refine heldN_done (by kernel_rfl) ?_ _
        gi_wp2
        refine ⟨(HKo.out.trans (KeepsOthers.setCell _ _ _)).from _, ⟨⟨B4, c4, HX4.out.set_ 0 _, HO4.out⟩, HB4.out.setCell (Nat.le_refl _) _, by simpa using hs4⟩, ?_⟩
        exact ⟨HU4.out.far_set 0 _ (by omega), HT4.out.far_set 0 _ (by omega), HB4.out.setCell (Nat.le_refl _) _⟩
      · go_simp
        refine hK.out _ _ trivial ?_
        clear hK K'
        refine heldS_call (i := 0) (by kernel_rfl) rfl (fun K' hK => ?_)
        have cp := (HC.out.grow (.cells #[.int .u64 (val x)] 22)).cell 0
        simp only [List.getElem?_cons_zero] at cp
        go_simp
        refine hK.out _ _ trivial ?_
        clear hK K' cp
        refine heldS_call (i := 4) (by kernel_rfl) rfl (fun K' hK => ?_)
        have hne0 : (Value.slice B k c2).ownBlock ≠ some w.heap.size := fun e => by have := (HRow.out _ e).1; omega
        have hne1 : (Value.slice B k c2).ownBlock ≠ some (w.heap.size + 1) := fun e => by have := (HRow.out _ e).1; omega
        have hne2 : (Value.slice B k c2).ownBlock ≠ some (w.heap.size + 1 + 1) := fun e => by have := (HRow.out _ e).1; omega
        refine step_words2 rfl _ _ rfl W0.heap.size _ k (rdWs zs k) x W.drew.heap.size (HO.out.drew.alloc _) rfl (Ws.one W.drew _) rfl (by omega) (by simp; omega) ?_
        intro v4 w4 ho4 hb4 hg4
        have HX4 := Lib.hid (((HC.out.drew).grow (.cells #[.int .u64 (val x)] 22)).grown hg4 hne0)
        have HU4 := Lib.hid (((HV.out.1.drew).grow (.cells #[.int .u64 (val x)] 22)).grown hg4 hne1)
        have HT4 := Lib.hid (((HV.out.2.1.drew).grow (.cells #[.int .u64 (val x)] 22)).grown hg4 hne2)
        have HKo := Lib.hid (((KeepsOthers.drew W).trans (KeepsOthers.alloc W.drew (.cells #[.int .u64 (val x)] 22))).trans (own_keeps (HO.out.drew.alloc _) hg4))
        have HB4 := Lib.hid ((HBw.out.drew.alloc (by simp; omega) (.cells #[.int .u64 (val x)] 22)).trans (hb4.mono (by omega)))
        refine hK.out _ _ trivial ?_
        clear hK K' hne0 hne1 hne2
        obtain ⟨B4, c4, rfl, _⟩ := own_words ho4
        rw [← HXX.out, rdWs_succ] at ho4
        have HO4 := Lib.hid (ownsRow_setCell_below ho4 (a := ⟨w.heap.size, 0, none⟩) (by simp; omega) (.slice B4 (k + 1) c4))
        have c4a := HX4.out.cell 0
        have f4a := HX4.out.free 0
        simp only [List.getElem?_cons_zero] at c4a
        have hs4 : W0.heap.size ≤ w4.heap.size := Nat.le_trans hsz (Nat.le_trans (by simp) hb4.size)
        clear ho4 hb4 hg4
        refine heldS_call (i := 5) (by kernel_rfl) rfl (fun K' hK => ?_)
        go_simp
        refine hK.out _ _ trivial ?_
        clear hK K'
        refine heldN_done (by kernel_rfl) ?_ _
        gi_wp2
        refine ⟨(HKo.out.trans (KeepsOthers.setCell _ _ _)).from _, ⟨⟨B4, c4, HX4.out.set_ 0 _, HO4.out⟩, HB4.out.setCell (Nat.le_refl _) _, by simpa using hs4⟩, ?_⟩
        exact ⟨HU4.out.far_set 0 _ (by omega), HT4.out.far_set 0 _ (by omega), HB4.out.setCell (Nat.le_refl _) _⟩
  case done =>
    rintro D W hD ⟨⟨B, c2, hC, hO⟩, hB, hw0⟩ hK
    have r0 := hC.cell 0
    simp only [List.getElem?_cons_zero] at r0
    gi_wp2
    refine ⟨by simp, .inl ⟨_, _, rfl, run_takeDeferred hK, ?_⟩⟩
    refine ⟨.slice B N c2, ?_, _, rfl, owns_base (own_abide (B := 0) _ _ hO (Same.turn _ hK rfl (Nat.zero_le _))) (by omega), below_shut hB hK (by omega)⟩
    simp [results, Try.results60, go_sem]
  case stop =>
    rintro D c k W _ h _
    exact h.elim
end Go.Proofs.Ythgahjihgoiklaa
