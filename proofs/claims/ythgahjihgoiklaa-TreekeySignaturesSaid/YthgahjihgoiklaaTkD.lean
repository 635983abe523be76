/- The iterator over a tree's levels. -/
import Derived.RangeFuncBound
import Derived.RangeFuncCalls
import Derived.RangeFuncLeaves
import Derived.Shelf.Abstract
import Derived.Shelf.RegionOpen
import Derived.OwnWalkIn
import Derived.TacticsInMore
import Derived.LoopNIn
import Derived.LoopIn
import Derived.Test.YthgahjihgoiklaaTkC
import Derived.Test.YthgahjihgoiklaaRgV
namespace Go.Proofs.Ythgahjihgoiklaa
open Go.RowKit Go.Shelf
set_option maxRecDepth 100000
attribute [local go_sem] Oper.semAt_some

theorem level_step (s : BitVec 64) (h k : Nat) (hk : k < h) :
    ((List.range (2 ^ (h - (k + 1)))).map fun i => nodeF ((k : Int) + 1) ((levelF s h k).getD (2 * i) 0) ((levelF s h k).getD (2 * i + 1) 0)) = levelF s h (k + 1) := by
  unfold levelF
  refine List.map_congr_left fun i hi => ?_
  have hi' : i < 2 ^ (h - (k + 1)) := by simpa using hi
  have e : 2 ^ (h - k) = 2 * 2 ^ (h - (k + 1)) := by
    rw [show h - k = (h - (k + 1)) + 1 by omega, Nat.pow_succ]; omega
  have h1 := levelF_at s h k (2 * i) (by omega)
  have h2 := levelF_at s h k (2 * i + 1) (by omega)
  unfold levelF at h1 h2
  rw [h1, h2]
  simp [treeN]
/-- what round k is handed: level k, in block g; the two boxes of the iterator -/
def VL (s : BitVec 64) (h B n0 : Nat) (k g : Nat) (W : World) : Prop :=
  Cs W B 22 [.int .u64 (val s)] ∧ Cs W (B + 1) 3 [.int .i64 (h : Int)] ∧ Cs W g 22 (wv (levelF s h k)) ∧ n0 ≤ g
def argsL (h : Nat) (k g : Nat) : Array Value := #[.int .i64 (k : Int), .slice (some ⟨g, 0, none⟩) (2 ^ (h - k)) (2 ^ (h - k))]
theorem lev_world {F : Fence} {n : Nat} {P : Program} {code : Code} {Q : Exit → Act → World → Prop} {a : Act} {W : World} (h : ∀ W', W' = W → Code.wpIn F n P code Q a W') : Code.wpIn F n P code Q a W := h W rfl

set_option maxHeartbeats 2000000 in
theorem levels_seq (n : Nat) (hn : 1 ≤ n) (s : BitVec 64) (h B : Nat) (hh : h ≤ 4) (w : World) (hB1 : Cs w B 22 [.int .u64 (val s)]) (hB2 : Cs w (B + 1) 3 [.int .i64 (h : Int)]) :
    SeqV Fence.wide n Try.prog 45 #[.pointer (some ⟨B, 0, none⟩), .pointer (some ⟨B + 1, 0, none⟩)] (argsL h) (VL s h B w.heap.size) (h + 1) w := by
  intro l J Jx W hW hJ hJx hY h0
  have hb1 := hB1.below hW hB1.lt
  have hb2 := hB2.below hW hB2.lt
  have c1 : W.cell? ⟨B, 0, none⟩ = some (.int .u64 (val s)) := by rw [hb1.cell]; rfl
  have c2 : W.cell? ⟨B + 1, 0, none⟩ = some (.int .i64 (h : Int)) := by rw [hb2.cell]; rfl
  have HB1 := Lib.hid hb1
  have HB2 := Lib.hid hb2
  have HW := Lib.hid hW
  have HJ := Lib.hid hJ
  have HJx := Lib.hid hJx
  have HY := Lib.hid hY
  have H0 := Lib.hid h0
  have hszW := hW.size
  clear hB1 hB2 hb1 hb2 hW hJ hJx hY h0
  refine callsIn_of_wp Try.func45 rfl trivial ?_ rfl
  simp only [Try.ntmps45, List.size_toArray, List.length_cons, List.length_nil, Nat.reduceAdd, Nat.reduceSub, Array.replicate_succ, Array.replicate_zero, List.push_toArray, List.append_toArray, List.nil_append, List.cons_append]
  gi_wp2_with fail
  refine ⟨trivial, (callsIn_wide.2 (leaves_any s h hh _)).mono ?_⟩
  rintro e w1 ⟨g, rfl, hg, hgs, hb⟩
  have hs1 := hb.size
  have HV1 : Hid (VL s h B w.heap.size 0 g w1) := Lib.hid ⟨HB1.out.below hb HB1.out.lt, HB2.out.below hb HB2.out.lt, hg, by omega⟩
  have HBw := Lib.hid hb
  have HJ1 : Hid (∃ A0, J 0 A0 ∧ Below A0.heap.size A0 w1 ∧ A0.heap.size ≤ g) := Lib.hid ⟨W, H0.out, hb, hgs⟩
  clear hg hb c1 c2
  gi_wp2
  gi_loopw [4, 5] (fun ns lv wr => ∃ k g' : Nat, k ≤ h ∧ lv = .int .i64 k ∧ ns = .slice (some ⟨g', 0, none⟩) (2 ^ (h - k)) (2 ^ (h - k)) ∧ Hid (VL s h B w.heap.size k g' wr) ∧ Hid (∃ A0, J k A0 ∧ Below A0.heap.size A0 wr ∧ A0.heap.size ≤ g'))
    (fun _ lv _ => h + 1 - (intOf lv).toNat)
  case atStart => exact ⟨0, g, Nat.zero_le _, rfl, rfl, HV1, HJ1⟩
  case round =>
    obtain ⟨k, g', hk, rfl, rfl, HV, HA⟩ := hrel
    obtain ⟨A0, hA1, hA2, hA3⟩ := HA.out
    obtain ⟨fn, tmps, assign, body, hy, hR⟩ := HY.out k g' A0 wr (by omega) hA1 hA2 hA3 HV.out
    dsimp only [argsL] at hy
    have HR := Lib.hid hR
    clear hR hA1 hA2 hA3
    gi_wp2
    refine HR.out.mono ?_
    rintro e W3 (⟨rfl, hJ3, hV3⟩ | ⟨rfl, hJx3⟩)
    · have HJ3 := Lib.hid hJ3
      have HV3 := Lib.hid hV3
      have c2 : W3.cell? ⟨B + 1, 0, none⟩ = some (.int .i64 (h : Int)) := by rw [hV3.2.1.cell]; rfl
      clear hJ3 hV3 hy
      by_cases hkh : k < h
      · have hkI : (k : Int) < (h : Int) := by omega
        have h43 : (h : Int) ≤ 4 := by omega
        gi_wp2_with fail
        have hlen : 2 ^ (h - k) = 2 * 2 ^ (h - (k + 1)) := by rw [show h - k = (h - (k + 1)) + 1 by omega, Nat.pow_succ]; omega
        have hle := pow_le (h - (k + 1)) (by omega)
        have hws := Ws.of_cs HV3.out.2.2.1
        rw [levelF_len] at hws
        refine ⟨trivial, (callsIn_wide.2 (parents_any ((k : Int) + 1) _ _ (2 ^ (h - (k + 1))) (2 ^ (h - k)) _ _ hws hlen (by omega))).mono ?_⟩
        rintro e w4 ⟨g4, rfl, hg4, hgs4, hb4⟩
        rw [level_step s h k hkh] at hg4
        have hs4 := hb4.size
        have HV4 : Hid (VL s h B w.heap.size (k + 1) g4 w4) := Lib.hid ⟨HV3.out.1.below hb4 HV3.out.1.lt, HV3.out.2.1.below hb4 HV3.out.2.1.lt, hg4, by have := lt_of_heap HV3.out.2.2.1; have := HV3.out.2.2.2; omega⟩
        have HA4 : Hid (∃ A0, J (k + 1) A0 ∧ Below A0.heap.size A0 w4 ∧ A0.heap.size ≤ g4) := Lib.hid ⟨W3, HJ3.out, hb4, hgs4⟩
        clear hg4 hb4 hws hlen hle c2
        gi_wp2
        go_roundw
        case rel => exact ⟨k + 1, g4, by omega, by go_num, rfl, HV4, HA4⟩
        case measure => (simp [intOf] <;> omega)
      · obtain rfl : k = h := by omega
        gi_wp2
        go_end0
        exact ⟨⟨_, rfl⟩, .inl HJ3.out⟩
    · gi_wp2
      go_end0
      exact ⟨⟨_, rfl⟩, .inr hJx3⟩
end Go.Proofs.Ythgahjihgoiklaa
