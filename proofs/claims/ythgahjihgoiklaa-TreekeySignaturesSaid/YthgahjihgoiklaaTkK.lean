/- slices.Grow of nil and slices.Concat, of bytes. -/
import Derived.Test.YthgahjihgoiklaaSipP
import Derived.Lib.AppendZerosOnto
import Derived.Lib.SliceRun
namespace Go.Proofs.Ythgahjihgoiklaa
open Go.RowKit
set_option maxRecDepth 100000

set_option maxHeartbeats 1000000 in
theorem growB_nil (n : Nat) (w : World) (hn : 1 ≤ n) (hn2 : n ≤ 1000000) :
    Calls Try.prog 62 #[.slice none 0 0, .int .i64 n] w fun e w' => ∃ cap, e = .returned (.slice (some ⟨w.heap.size, 0, none⟩) 0 cap) ∧ Row w' w.heap.size (.slice (some ⟨w.heap.size, 0, none⟩) 0 cap) 0 [] ∧ Below w.heap.size w w' := by
  obtain ⟨i0, hi, hz0, hz1, hz2⟩ := info_parts infoB
  have hcap := grownCap_ge w n 0 5
  have hmax := grownCap_le_maxLen w n 0 5 (by unfold maxLen; omega)
  have hold : (Builtin.firstCells i0.size 0 (.slice none 0 0)).run Try.prog w.drew = .ok (#[] : Array Value) w.drew := Go.run_firstCells_none w.drew i0.size 0 0 0
  have hrz : ∀ ty, (Builtin.append_ #[43, 3] ty #[.slice none 0 0, .int .i64 n]).run Try.prog w = .ok (.slice (some ⟨w.heap.size, 0, none⟩) n (grownCap w n 0 5)) (w.drew.alloc (.cells (#[] ++ Builtin.zeroCells (Value.cells (.int .u8 0)) n ++ Builtin.zeroCells (Value.cells (.int .u8 0)) (grownCap w n 0 5 - n)) 5)) := fun ty => by
    have h := Lib.run_append_grow_zeros w 43 3 ty 5 i0 _ .i64 .i64 Try.underlying43 Try.underlying3 hi hz0 none 0 0 [] hold n (by omega) (by omega) (by omega) (by omega) (by rw [hz2]; omega) (by rw [Nat.zero_add, hz2]; exact growslice_fits (by omega) (by omega))
    simpa using h
  generalize hC : (#[] ++ Builtin.zeroCells (Value.cells (.int .u8 0)) n ++ Builtin.zeroCells (Value.cells (.int .u8 0)) (grownCap w n 0 5 - n) : Array Value) = C at hrz
  have hCs : C.size = grownCap w n 0 5 * 1 := by
    rw [← hC]; simp [size_zeroCells, Value.cells]; omega
  generalize grownCap w n 0 5 = G at hrz hcap hmax hCs
  have HR := Lib.hid hrz
  have HCS := Lib.hid hCs
  have hn63 : (n : Int) ≤ 1000000 := by omega
  unfold maxLen at hmax
  clear hrz hC hCs hold hi hz0 hz1 hz2
  go_enter Try.func62, Try.ntmps62
  go_wp2_with (at_builtin; refine Lib.wpList_append_run _ rfl _ _ _ _ rfl _ _ rfl rfl _ _ (HR.out _) ?_)
  go_ret
  exact ⟨G, rfl, Row.of_own (World.ownsRow_made (base := w.heap.size) w.drew C G (by simp) (by unfold maxLen; omega) HCS.out), (Below.refl _ w).drew.alloc (by simp) _⟩

/-- a slice of slices of bytes -/
def BB (w : World) (cb : Nat) (ls : List (List Int)) : Prop := ∀ i (h : i < ls.length), ∃ A c, w.cell? ⟨cb, i, none⟩ = some (.slice A ls[i].length c) ∧ Bytes w A ls[i].length ls[i]
theorem BB.below {w w' : World} {cb : Nat} {ls : List (List Int)} (h : BB w cb ls) (hb : Below w.heap.size w w') : BB w' cb ls := fun i hi => by
  obtain ⟨A, c, h1, h2⟩ := h i hi
  exact ⟨A, c, (hb.cell (cell_in h1)).trans h1, h2.below hb⟩
def totB (ls : List (List Int)) : Nat := ls.flatten.length
theorem totB_take {ls : List (List Int)} {j : Nat} (h : j < ls.length) : totB (ls.take (j + 1)) = totB (ls.take j) + ls[j].length := by
  rw [totB, List.take_succ_eq_append_getElem h, List.flatten_append]; simp [totB]
theorem totB_le (ls : List (List Int)) (j : Nat) : totB (ls.take j) ≤ totB ls := by
  have e : ls.flatten = (ls.take j).flatten ++ (ls.drop j).flatten := by rw [← List.flatten_append, List.take_append_drop]
  unfold totB
  rw [e, List.length_append]
  omega
theorem flatB_take {ls : List (List Int)} {j : Nat} (h : j < ls.length) : (ls.take (j + 1)).flatten = (ls.take j).flatten ++ ls[j] := by
  rw [List.take_succ_eq_append_getElem h, List.flatten_append]; simp

set_option maxHeartbeats 1000000 in
theorem concatB_any (cb cap k : Nat) (ls : List (List Int)) (w : World) (hV : BB w cb ls) (h1 : 1 ≤ totB ls) (h2 : totB ls ≤ 1000000) (hk : ls.length = k) (hn : k ≤ 1000000) :
    Calls Try.prog 49 #[.slice (some ⟨cb, 0, none⟩) k cap] w fun e w' => ∃ v, e = .returned v ∧ Row w' w.heap.size v (totB ls) ls.flatten ∧ Below w.heap.size w w' := by
  subst hk
  have HV := Lib.hid hV
  have HG := Lib.hid (growB_nil (totB ls) w h1 h2)
  clear hV
  go_enter Try.func49, Try.ntmps49
  go_wp2_with fail
  go_loop [3, 11] (fun s i => ∃ j : Nat, j ≤ ls.length ∧ i = .int .i64 j ∧ s = .int .i64 (totB (ls.take j))) (fun _ i => ls.length - (intOf i).toNat)
  case atStart => exact ⟨0, by omega, rfl, rfl⟩
  case round =>
    obtain ⟨j, hj, rfl, rfl⟩ := hrel
    have htl := totB_le ls j
    by_cases hlt : j < ls.length
    · obtain ⟨A, c2, hc, _⟩ := HV.out j hlt
      have htk := totB_take hlt
      have htl2 := totB_le ls (j + 1)
      have hlj : ls[j].length ≤ 1000000 := by omega
      have HTK := Lib.hid htk
      clear htk
      go_wp2
      go_round
      case rel => exact ⟨j + 1, by omega, by go_num, by rw [HTK.out]; go_num⟩
      case measure => simp [intOf]; omega
    · have hjl : j = ls.length := by omega
      have ht : totB (ls.take j) = totB ls := by rw [hjl, List.take_length]
      rw [ht]
      clear ht hjl htl
      go_wp2_with fail
      refine HG.out.mono ?_
      rintro e w1 ⟨c1, rfl, ho1, hb1⟩
      have HB1 := Lib.hid hb1
      have HO1 := Lib.hid ho1
      clear ho1 hb1
      go_wp2
      go_loopw [6, 27] (fun v i wr => ∃ j : Nat, j ≤ ls.length ∧ i = .int .i64 j ∧ Row wr w.heap.size v (totB (ls.take j)) (ls.take j).flatten ∧ Below w.heap.size w wr) (fun _ i _ => ls.length - (intOf i).toNat)
      case atStart => exact ⟨0, by omega, rfl, by simpa [totB] using HO1.out, HB1.out⟩
      case round =>
        obtain ⟨k, hk, rfl, hok, hbk⟩ := hrel
        have HO := Lib.hid hok
        have HB := Lib.hid hbk
        have hsz := hbk.size
        clear hok hbk
        by_cases hlt : k < ls.length
        · obtain ⟨A, c2, q, hI⟩ := (HV.out.below HB.out) k hlt
          have htk := totB_take hlt
          have htl1 := totB_le ls k
          have htl2 := totB_le ls (k + 1)
          have hlj : ls[k].length ≤ 1000000 := by omega
          have hft := flatB_take hlt
          have HTK := Lib.hid htk
          have HFT := Lib.hid hft
          have HI := Lib.hid hI
          clear htk hft hI
          go_wp2_with (at_builtin; refine app_row rfl _ _ rfl w.heap.size _ _ _ _ _ _ ls[k] HO.out rfl HI.out rfl (by omega) hsz ?_; intro v2 w2 ho2 hb2)
          go_roundw
          case rel => exact ⟨k + 1, by omega, by go_num, by rw [HTK.out, HFT.out]; exact ho2, HB.out.trans hb2⟩
          case measure => simp [intOf]; omega
        · have hkl : k = ls.length := by omega
          go_wp2
          go_ret
          exact ⟨_, rfl, by have h := HO.out; rwa [hkl, List.take_length] at h, HB.out⟩
end Go.Proofs.Ythgahjihgoiklaa
