/- Joined: E1, E2, E3, E4. -/
import Derived.Test.YtepinmeidjlmmaaDoorR4
import Derived.Deep.RegionWith
namespace Go.Proofs.YtepinmeidjlmmaaDoor
open Go.RowKit

/-- the reference's parts: new bytes -/
def RowPost (base : Nat) (w : World) (l : List Int) (e : Ending) (w' : World) : Prop := ∃ v', e = .returned v' ∧ w'.ownsRow base 5 1 v' l.length (bv l) ∧ Below base w w'

set_option maxRecDepth 100000 in
set_option maxHeartbeats 400000 in
theorem within_any (n lo hi : Int) (w : World) : Calls Tryd.prog 80 #[.int .i64 n, .int .i64 lo, .int .i64 hi] w fun e w' => e = .returned (.bool (decide (lo ≤ n) && decide (n ≤ hi))) ∧ w = w' := by
  by_cases h1 : lo ≤ n
  · by_cases h2 : n ≤ hi
    · rw [decide_eq_true h1, decide_eq_true h2]
      go_enter Tryd.func80, Tryd.ntmps80
      go_wp2
      go_ret
      exact ⟨rfl, rfl⟩
    · rw [decide_eq_true h1, decide_eq_false h2]
      go_enter Tryd.func80, Tryd.ntmps80
      go_wp2
      go_ret
      exact ⟨rfl, rfl⟩
  · rw [decide_eq_false h1]
    go_enter Tryd.func80, Tryd.ntmps80
    go_wp2
    go_ret
    exact ⟨rfl, rfl⟩

def isKeyB (k : Int) : Bool := k == 1 || k == 2 || k == 4
set_option maxRecDepth 100000 in
set_option maxHeartbeats 400000 in
theorem isKey_any (k : Int) (w : World) : Calls Tryd.prog 68 #[.int .i64 k] w fun e w' => e = .returned (.bool (isKeyB k)) ∧ w = w' := by
  by_cases h1 : k = 1
  · subst h1
    go_enter Tryd.func68, Tryd.ntmps68
    go_wp2
    go_ret
    exact ⟨rfl, rfl⟩
  by_cases h2 : k = 2
  · subst h2
    go_enter Tryd.func68, Tryd.ntmps68
    go_wp2
    go_ret
    exact ⟨rfl, rfl⟩
  by_cases h4 : k = 4
  · subst h4
    go_enter Tryd.func68, Tryd.ntmps68
    go_wp2
    go_ret
    exact ⟨rfl, rfl⟩
  go_enter Tryd.func68, Tryd.ntmps68
  go_wp2
  go_ret
  exact ⟨rfl, rfl⟩

def headR (k n : Int) (d : ByteArray) : List Int := if k = 7 then [244 + n] else if k = 8 then [246] else encHead (k - 1) (argN k n d)
theorem row_lit (w : World) (l : List Int) (cs : Array Value) (n base : Nat) (hb : base ≤ w.heap.size) (hn : l.length = n) (hm : n ≤ 1000) (hcs : cs.toList = bv l) : (w.alloc (.cells cs 5)).ownsRow base 5 1 (.slice (some ⟨w.heap.size, 0, none⟩) n n) l.length (bv l) := by
  subst hn
  have h := World.ownsRow_lit (e := 5) (size := 1) w cs l.length hb (by unfold maxLen; omega) (by rw [← Array.length_toList, hcs, bv_len]; omega)
  rw [hcs] at h
  exact h

set_option maxRecDepth 100000 in
set_option maxHeartbeats 400000 in
theorem words1_any (b : Nat) (n : Int) (w : World) (hc : w.cell? ⟨b, 0, none⟩ = some (.int .u64 n)) (hb : b < w.heap.size) (_ : 0 ≤ n) :
    Calls Tryd.prog 77 #[.slice (some ⟨b, 0, none⟩) 1 1] w (RowPost w.heap.size w (beBytes n 8 8)) := by
  have HC := Lib.hid hc
  clear hc
  go_enter Tryd.func77, Tryd.ntmps77
  go_wp2_with fail
  refine wp_loop_rounds 2 ?_
  rw [rounds_succ]
  go_wp2_with fail
  go_loopw [3, 5] (fun v k wr => ∃ j : Nat, j ≤ 8 ∧ k = .int .i64 (7 - j) ∧ wr.ownsRow w.heap.size 5 1 v j (bv (beBytes n 8 j)) ∧ Below w.heap.size w wr) (fun _ k _ => (intOf k + 1).toNat)
  case atStart => exact ⟨0, by omega, by simp, World.ownsRow_nil _ _ _ _, Below.refl _ _⟩
  case round =>
    obtain ⟨j, hj, rfl, hok, hbk⟩ := hrel
    by_cases hlt : j < 8
    · have hcr := (hbk.cell (p := ⟨b, 0, none⟩) hb).trans HC.out
      go_wp2_with (at_builtin; (refine app_byte rfl _ _ rfl w.heap.size _ j _ _ hok rfl _ rfl rfl (by omega) hbk.size ?_); intro v2 w2 ho2 hb2 hk2)
      go_roundw
      case rel => exact ⟨j + 1, by omega, by go_num, by rw [beBytes_succ, bv_app]; exact ho2, hbk.trans hb2⟩
      case measure => simp [intOf]; omega
    · obtain rfl : j = 8 := by omega
      go_wp2_with fail
      rw [rounds_succ]
      go_wp2
      go_ret
      exact ⟨_, rfl, hok, hbk⟩

theorem row_end (w : World) (o1 : Obj) (l : List Int) (cs : Array Value) (n : Nat) (hn : l.length = n) (hm : n ≤ 1000) (hcs : cs.toList = bv l) : RowPost w.heap.size w l (.returned (.slice (some ⟨w.heap.size + 1, 0, none⟩) n n)) ((w.alloc o1).alloc (.cells cs 5)) := by
  have h := row_lit (w.alloc o1) l cs n w.heap.size (by simp) hn hm hcs
  rw [show (w.alloc o1).heap.size = w.heap.size + 1 from by simp] at h
  exact ⟨_, rfl, h, ((Below.refl _ w).alloc (Nat.le_refl _) _).alloc (by simp) _⟩

theorem row_end_d (w : World) (o1 : Obj) (l : List Int) (cs : Array Value) (n : Nat) (hn : l.length = n) (hm : n ≤ 1000) (hcs : cs.toList = bv l) : RowPost w.heap.size w l (.returned (.slice (some ⟨w.heap.size + 1, 0, none⟩) n n)) ((w.alloc o1).alloc (.cells cs 5)).drew := by
  obtain ⟨v', h1, h2, h3⟩ := row_end w o1 l cs n hn hm hcs
  exact ⟨v', h1, h2, h3.drew⟩

set_option maxRecDepth 100000 in
set_option maxHeartbeats 400000 in
theorem headR_1_s (n : Int) (d : ByteArray) (w : World) (hn0 : 0 ≤ n) (h1 : n < 24) : Calls Tryd.prog 54 #[itemV 1 n d] w (RowPost w.heap.size w (encHead 0 n)) := by
  rw [encHead0 h1]
  unfold itemV
  go_enter Tryd.func54, Tryd.ntmps54
  go_wp2
  go_ret
  refine row_end w _ _ _ _ rfl (by decide) ?_
  simp [bv] <;> omega

set_option maxRecDepth 100000 in
set_option maxHeartbeats 400000 in
theorem headR_1_1 (n : Int) (d : ByteArray) (w : World) (_ : 0 ≤ n) (h1 : 24 ≤ n) (h2 : n < 256) : Calls Tryd.prog 54 #[itemV 1 n d] w (RowPost w.heap.size w (encHead 0 n)) := by
  rw [encHead1 h1 h2]
  unfold itemV
  go_enter Tryd.func54, Tryd.ntmps54
  go_wp2
  go_ret
  refine row_end w _ _ _ _ rfl (by decide) ?_
  simp [bv, beBytes, beByte, List.range_succ] <;> omega

set_option maxRecDepth 100000 in
set_option maxHeartbeats 400000 in
theorem headR_1_2 (n : Int) (d : ByteArray) (w : World) (_ : 0 ≤ n) (h1 : 256 ≤ n) (h2 : n < 65536) : Calls Tryd.prog 54 #[itemV 1 n d] w (RowPost w.heap.size w (encHead 0 n)) := by
  rw [encHead2 h1 h2]
  unfold itemV
  go_enter Tryd.func54, Tryd.ntmps54
  go_wp2
  go_ret
  refine row_end w _ _ _ _ rfl (by decide) ?_
  simp [bv, beBytes, beByte, List.range_succ] <;> omega

set_option maxRecDepth 100000 in
set_option maxHeartbeats 400000 in
theorem headR_1_4 (n : Int) (d : ByteArray) (w : World) (_ : 0 ≤ n) (h1 : 65536 ≤ n) (h2 : n < 4294967296) : Calls Tryd.prog 54 #[itemV 1 n d] w (RowPost w.heap.size w (encHead 0 n)) := by
  rw [encHead4 h1 h2]
  unfold itemV
  go_enter Tryd.func54, Tryd.ntmps54
  go_wp2
  go_ret
  refine row_end w _ _ _ _ rfl (by decide) ?_
  simp [bv, beBytes, beByte, List.range_succ] <;> omega

set_option maxRecDepth 100000 in
set_option maxHeartbeats 400000 in
theorem headR_2_s (n : Int) (d : ByteArray) (w : World) (hn0 : 0 ≤ n) (h1 : n < 24) : Calls Tryd.prog 54 #[itemV 2 n d] w (RowPost w.heap.size w (encHead 1 n)) := by
  rw [encHead0 h1]
  unfold itemV
  go_enter Tryd.func54, Tryd.ntmps54
  go_wp2
  go_ret
  refine row_end w _ _ _ _ rfl (by decide) ?_
  simp [bv] <;> omega

set_option maxRecDepth 100000 in
set_option maxHeartbeats 400000 in
theorem headR_2_1 (n : Int) (d : ByteArray) (w : World) (_ : 0 ≤ n) (h1 : 24 ≤ n) (h2 : n < 256) : Calls Tryd.prog 54 #[itemV 2 n d] w (RowPost w.heap.size w (encHead 1 n)) := by
  rw [encHead1 h1 h2]
  unfold itemV
  go_enter Tryd.func54, Tryd.ntmps54
  go_wp2
  go_ret
  refine row_end w _ _ _ _ rfl (by decide) ?_
  simp [bv, beBytes, beByte, List.range_succ] <;> omega

set_option maxRecDepth 100000 in
set_option maxHeartbeats 400000 in
theorem headR_2_2 (n : Int) (d : ByteArray) (w : World) (_ : 0 ≤ n) (h1 : 256 ≤ n) (h2 : n < 65536) : Calls Tryd.prog 54 #[itemV 2 n d] w (RowPost w.heap.size w (encHead 1 n)) := by
  rw [encHead2 h1 h2]
  unfold itemV
  go_enter Tryd.func54, Tryd.ntmps54
  go_wp2
  go_ret
  refine row_end w _ _ _ _ rfl (by decide) ?_
  simp [bv, beBytes, beByte, List.range_succ] <;> omega

set_option maxRecDepth 100000 in
set_option maxHeartbeats 400000 in
theorem headR_2_4 (n : Int) (d : ByteArray) (w : World) (_ : 0 ≤ n) (h1 : 65536 ≤ n) (h2 : n < 4294967296) : Calls Tryd.prog 54 #[itemV 2 n d] w (RowPost w.heap.size w (encHead 1 n)) := by
  rw [encHead4 h1 h2]
  unfold itemV
  go_enter Tryd.func54, Tryd.ntmps54
  go_wp2
  go_ret
  refine row_end w _ _ _ _ rfl (by decide) ?_
  simp [bv, beBytes, beByte, List.range_succ] <;> omega

set_option maxRecDepth 100000 in
set_option maxHeartbeats 400000 in
theorem headR_5_s (n : Int) (d : ByteArray) (w : World) (hn0 : 0 ≤ n) (h1 : n < 24) : Calls Tryd.prog 54 #[itemV 5 n d] w (RowPost w.heap.size w (encHead 4 n)) := by
  rw [encHead0 h1]
  unfold itemV
  go_enter Tryd.func54, Tryd.ntmps54
  go_wp2
  go_ret
  refine row_end w _ _ _ _ rfl (by decide) ?_
  simp [bv] <;> omega

set_option maxRecDepth 100000 in
set_option maxHeartbeats 400000 in
theorem headR_5_1 (n : Int) (d : ByteArray) (w : World) (_ : 0 ≤ n) (h1 : 24 ≤ n) (h2 : n < 256) : Calls Tryd.prog 54 #[itemV 5 n d] w (RowPost w.heap.size w (encHead 4 n)) := by
  rw [encHead1 h1 h2]
  unfold itemV
  go_enter Tryd.func54, Tryd.ntmps54
  go_wp2
  go_ret
  refine row_end w _ _ _ _ rfl (by decide) ?_
  simp [bv, beBytes, beByte, List.range_succ] <;> omega

set_option maxRecDepth 100000 in
set_option maxHeartbeats 400000 in
theorem headR_5_2 (n : Int) (d : ByteArray) (w : World) (_ : 0 ≤ n) (h1 : 256 ≤ n) (h2 : n < 65536) : Calls Tryd.prog 54 #[itemV 5 n d] w (RowPost w.heap.size w (encHead 4 n)) := by
  rw [encHead2 h1 h2]
  unfold itemV
  go_enter Tryd.func54, Tryd.ntmps54
  go_wp2
  go_ret
  refine row_end w _ _ _ _ rfl (by decide) ?_
  simp [bv, beBytes, beByte, List.range_succ] <;> omega

set_option maxRecDepth 100000 in
set_option maxHeartbeats 400000 in
theorem headR_5_4 (n : Int) (d : ByteArray) (w : World) (_ : 0 ≤ n) (h1 : 65536 ≤ n) (h2 : n < 4294967296) : Calls Tryd.prog 54 #[itemV 5 n d] w (RowPost w.heap.size w (encHead 4 n)) := by
  rw [encHead4 h1 h2]
  unfold itemV
  go_enter Tryd.func54, Tryd.ntmps54
  go_wp2
  go_ret
  refine row_end w _ _ _ _ rfl (by decide) ?_
  simp [bv, beBytes, beByte, List.range_succ] <;> omega

set_option maxRecDepth 100000 in
set_option maxHeartbeats 400000 in
theorem headR_6_s (n : Int) (d : ByteArray) (w : World) (hn0 : 0 ≤ n) (h1 : n < 24) : Calls Tryd.prog 54 #[itemV 6 n d] w (RowPost w.heap.size w (encHead 5 n)) := by
  rw [encHead0 h1]
  unfold itemV
  go_enter Tryd.func54, Tryd.ntmps54
  go_wp2
  go_ret
  refine row_end w _ _ _ _ rfl (by decide) ?_
  simp [bv] <;> omega

set_option maxRecDepth 100000 in
set_option maxHeartbeats 400000 in
theorem headR_6_1 (n : Int) (d : ByteArray) (w : World) (_ : 0 ≤ n) (h1 : 24 ≤ n) (h2 : n < 256) : Calls Tryd.prog 54 #[itemV 6 n d] w (RowPost w.heap.size w (encHead 5 n)) := by
  rw [encHead1 h1 h2]
  unfold itemV
  go_enter Tryd.func54, Tryd.ntmps54
  go_wp2
  go_ret
  refine row_end w _ _ _ _ rfl (by decide) ?_
  simp [bv, beBytes, beByte, List.range_succ] <;> omega

set_option maxRecDepth 100000 in
set_option maxHeartbeats 400000 in
theorem headR_6_2 (n : Int) (d : ByteArray) (w : World) (_ : 0 ≤ n) (h1 : 256 ≤ n) (h2 : n < 65536) : Calls Tryd.prog 54 #[itemV 6 n d] w (RowPost w.heap.size w (encHead 5 n)) := by
  rw [encHead2 h1 h2]
  unfold itemV
  go_enter Tryd.func54, Tryd.ntmps54
  go_wp2
  go_ret
  refine row_end w _ _ _ _ rfl (by decide) ?_
  simp [bv, beBytes, beByte, List.range_succ] <;> omega

set_option maxRecDepth 100000 in
set_option maxHeartbeats 400000 in
theorem headR_6_4 (n : Int) (d : ByteArray) (w : World) (_ : 0 ≤ n) (h1 : 65536 ≤ n) (h2 : n < 4294967296) : Calls Tryd.prog 54 #[itemV 6 n d] w (RowPost w.heap.size w (encHead 5 n)) := by
  rw [encHead4 h1 h2]
  unfold itemV
  go_enter Tryd.func54, Tryd.ntmps54
  go_wp2
  go_ret
  refine row_end w _ _ _ _ rfl (by decide) ?_
  simp [bv, beBytes, beByte, List.range_succ] <;> omega

set_option maxRecDepth 100000 in
set_option maxHeartbeats 400000 in
theorem headR_3_s (n : Int) (d : ByteArray) (w : World) (hd : d.size ≤ 1100) (h1 : (d.size : Int) < 24) : Calls Tryd.prog 54 #[itemV 3 n d] w (RowPost w.heap.size w (encHead 2 (d.size : Int))) := by
  rw [encHead0 h1]
  have hd1 : (d.size : Int) ≤ 1100 := by omega
  have hd0 : (0 : Int) ≤ (d.size : Int) := by omega
  unfold itemV
  go_enter Tryd.func54, Tryd.ntmps54
  go_wp2_with fail
  go_region
  all_goals generalize (d.size : Int) = N at *
  all_goals go_wp2
  all_goals go_ret
  all_goals refine row_end_d w _ _ _ _ rfl (by simp) ?_
  all_goals simp [bv] <;> omega

set_option maxRecDepth 100000 in
set_option maxHeartbeats 400000 in
theorem headR_3_1 (n : Int) (d : ByteArray) (w : World) (hd : d.size ≤ 1100) (h1 : 24 ≤ (d.size : Int)) (h2 : (d.size : Int) < 256) : Calls Tryd.prog 54 #[itemV 3 n d] w (RowPost w.heap.size w (encHead 2 (d.size : Int))) := by
  rw [encHead1 h1 h2]
  have hd1 : (d.size : Int) ≤ 1100 := by omega
  have hd0 : (0 : Int) ≤ (d.size : Int) := by omega
  unfold itemV
  go_enter Tryd.func54, Tryd.ntmps54
  go_wp2_with fail
  go_region
  all_goals generalize (d.size : Int) = N at *
  all_goals go_wp2
  all_goals go_ret
  all_goals refine row_end_d w _ _ _ _ rfl (by simp) ?_
  all_goals simp [bv, beBytes, beByte, List.range_succ] <;> omega

set_option maxRecDepth 100000 in
set_option maxHeartbeats 400000 in
theorem headR_3_2 (n : Int) (d : ByteArray) (w : World) (hd : d.size ≤ 1100) (h1 : 256 ≤ (d.size : Int)) (h2 : (d.size : Int) < 65536) : Calls Tryd.prog 54 #[itemV 3 n d] w (RowPost w.heap.size w (encHead 2 (d.size : Int))) := by
  rw [encHead2 h1 h2]
  have hd1 : (d.size : Int) ≤ 1100 := by omega
  have hd0 : (0 : Int) ≤ (d.size : Int) := by omega
  unfold itemV
  go_enter Tryd.func54, Tryd.ntmps54
  go_wp2_with fail
  go_region
  all_goals generalize (d.size : Int) = N at *
  all_goals go_wp2
  all_goals go_ret
  all_goals refine row_end_d w _ _ _ _ rfl (by simp) ?_
  all_goals simp [bv, beBytes, beByte, List.range_succ] <;> omega

set_option maxRecDepth 100000 in
set_option maxHeartbeats 400000 in
theorem headR_4_s (n : Int) (d : ByteArray) (w : World) (hd : d.size ≤ 1100) (h1 : (d.size : Int) < 24) : Calls Tryd.prog 54 #[itemV 4 n d] w (RowPost w.heap.size w (encHead 3 (d.size : Int))) := by
  rw [encHead0 h1]
  have hd1 : (d.size : Int) ≤ 1100 := by omega
  have hd0 : (0 : Int) ≤ (d.size : Int) := by omega
  unfold itemV
  go_enter Tryd.func54, Tryd.ntmps54
  go_wp2_with fail
  go_region
  all_goals generalize (d.size : Int) = N at *
  all_goals go_wp2
  all_goals go_ret
  all_goals refine row_end_d w _ _ _ _ rfl (by simp) ?_
  all_goals simp [bv] <;> omega

set_option maxRecDepth 100000 in
set_option maxHeartbeats 400000 in
theorem headR_4_1 (n : Int) (d : ByteArray) (w : World) (hd : d.size ≤ 1100) (h1 : 24 ≤ (d.size : Int)) (h2 : (d.size : Int) < 256) : Calls Tryd.prog 54 #[itemV 4 n d] w (RowPost w.heap.size w (encHead 3 (d.size : Int))) := by
  rw [encHead1 h1 h2]
  have hd1 : (d.size : Int) ≤ 1100 := by omega
  have hd0 : (0 : Int) ≤ (d.size : Int) := by omega
  unfold itemV
  go_enter Tryd.func54, Tryd.ntmps54
  go_wp2_with fail
  go_region
  all_goals generalize (d.size : Int) = N at *
  all_goals go_wp2
  all_goals go_ret
  all_goals refine row_end_d w _ _ _ _ rfl (by simp) ?_
  all_goals simp [bv, beBytes, beByte, List.range_succ] <;> omega

set_option maxRecDepth 100000 in
set_option maxHeartbeats 400000 in
theorem headR_4_2 (n : Int) (d : ByteArray) (w : World) (hd : d.size ≤ 1100) (h1 : 256 ≤ (d.size : Int)) (h2 : (d.size : Int) < 65536) : Calls Tryd.prog 54 #[itemV 4 n d] w (RowPost w.heap.size w (encHead 3 (d.size : Int))) := by
  rw [encHead2 h1 h2]
  have hd1 : (d.size : Int) ≤ 1100 := by omega
  have hd0 : (0 : Int) ≤ (d.size : Int) := by omega
  unfold itemV
  go_enter Tryd.func54, Tryd.ntmps54
  go_wp2_with fail
  go_region
  all_goals generalize (d.size : Int) = N at *
  all_goals go_wp2
  all_goals go_ret
  all_goals refine row_end_d w _ _ _ _ rfl (by simp) ?_
  all_goals simp [bv, beBytes, beByte, List.range_succ] <;> omega

set_option maxRecDepth 100000 in
set_option maxHeartbeats 400000 in
theorem headR_7 (n : Int) (d : ByteArray) (w : World) (hn0 : 0 ≤ n) (hn1 : n ≤ 1) : Calls Tryd.prog 54 #[itemV 7 n d] w (RowPost w.heap.size w [244 + n]) := by
  unfold itemV
  go_enter Tryd.func54, Tryd.ntmps54
  go_wp2
  go_ret
  refine row_end w _ _ _ _ rfl (by decide) ?_
  simp [bv] <;> omega

set_option maxRecDepth 100000 in
set_option maxHeartbeats 400000 in
theorem headR_8 (n : Int) (d : ByteArray) (w : World) : Calls Tryd.prog 54 #[itemV 8 n d] w (RowPost w.heap.size w [246]) := by
  unfold itemV
  go_enter Tryd.func54, Tryd.ntmps54
  go_wp2
  go_ret
  refine row_end w _ _ _ _ rfl (by decide) ?_
  simp [bv] <;> omega

end Go.Proofs.YtepinmeidjlmmaaDoor

namespace Go.Proofs.YtepinmeidjlmmaaDoor
open Go.RowKit

/-- append(b, c...) of bytes, b the call's own -/
theorem app_row {ops : Array Oper} {rest : List Oper} {o : Oper} {a : Act} {Q : Exit → Act → World → Prop} {w : World} (hgd : o.guard = none) (s x : Operand)
    (ho : o.op = .call { callee := .builtin .append, args := #[s, x], argTypes := #[25, 25] })
    (base : Nat) (v : Value) (n : Nat) (xs : List Value) (base2 : Nat) (v2 : Value) (l : List Int) (hown : w.ownsRow base 5 1 v n xs) (hs : a.eval s = v)
    (h2 : w.ownsRow base2 5 1 v2 l.length (bv l)) (hx : a.eval x = v2) (hne : 0 < l.length) (hn : n ≤ 1000000) (hl : l.length ≤ 1000000) (hb : base ≤ w.heap.size)
    (h : ∀ v' w', w'.ownsRow base 5 1 v' (n + l.length) (xs ++ bv l) → Below base w w' → wpList Tryd.prog ops Q rest (a.put o.dst v') w') :
    wpList Tryd.prog ops Q (o :: rest) a w := by
  obtain ⟨i0, hi, hz0, hz1, hz2⟩ := info_parts info5
  rcases h2.2 with ⟨_, h0⟩ | ⟨g, cap, cur, rfl, _⟩
  · omega
  refine wpList_append_own _ hgd s x 25 ho base 5 i0 (.int .u8 0) 1 1 Tryd.underlying25 hi hz0 hz1 hz2 rfl (by decide) v n xs hs hown ⟨g, 0, none⟩ l.length cap (bv l) hx (by rw [bv_len]; omega) (fun j u hj => ?_) (fun u hu => ?_) (by unfold maxLen; omega) (by omega) hb ?_
  · have hjl : j < l.length := by
      rcases Nat.lt_or_ge j (bv l).length with h1 | h1
      · rwa [bv_len] at h1
      · rw [List.getElem?_eq_none h1] at hj; cases hj
    have e : (⟨g, 0, none⟩ : Addr).add j = ⟨g, j, none⟩ := by unfold Addr.add; split <;> simp_all
    rw [e, h2.cellAt _ (by omega)]
    exact hj
  · obtain ⟨z, _, rfl⟩ := List.mem_map.1 hu
    simp [Value.oneCell']
  intro v' w' h1 h2 _
  exact h v' w' h1 (below_of_grown hown hb h2)

theorem cell_new5 (w : World) (o1 o2 : Obj) (n : Int) : (((w.alloc o1).alloc o2).alloc (.cells #[.int .u64 n] 45)).cell? ⟨w.heap.size + 2, 0, none⟩ = some (.int .u64 n) := cell_of_block (heap_new5 w _ _ _) rfl
theorem own_new6 (w : World) (o1 : Obj) (x : Int) (o3 : Obj) : (((w.alloc o1).alloc (.cells #[.int .u8 x] 5)).alloc o3).ownsRow w.heap.size 5 1 (.slice (some ⟨w.heap.size + 1, 0, none⟩) 1 1) 1 (bv [x]) := by
  have h := row_lit (w.alloc o1) [x] #[.int .u8 x] 1 w.heap.size (by simp) rfl (by omega) rfl
  rw [show (w.alloc o1).heap.size = w.heap.size + 1 from by simp] at h
  exact h.alloc _

set_option maxRecDepth 100000 in
set_option maxHeartbeats 400000 in
theorem headR_1_8 (n : Int) (d : ByteArray) (w : World) (hn0 : 0 ≤ n) (h1 : 4294967296 ≤ n) : Calls Tryd.prog 54 #[itemV 1 n d] w (RowPost w.heap.size w (encHead 0 n)) := by
  rw [encHead8 h1]
  unfold itemV
  go_enter Tryd.func54, Tryd.ntmps54
  go_wp2_with (first | (go_at_call 77; refine (words1_any _ n _ (cell_new5 _ _ _ _) (by simp) hn0).mono ?_; rintro e w' ⟨v', rfl, ho, hb⟩) | (at_builtin; refine app_row rfl _ _ rfl w.heap.size _ 1 _ _ v' _ (own_below (own_new6 w _ _ _) hb) rfl ho rfl (by simp [beBytes_len]) (by omega) (by simp [beBytes_len]) (by have := hb.size; simp at this; omega) ?_; intro v2 w2 ho2 hb2))
  go_ret
  have hbw : Below w.heap.size w w' := ((((Below.refl _ w).alloc (Nat.le_refl _) _).alloc (by simp) _).alloc (by simp; omega) _).trans (hb.mono (by simp; omega))
  refine ⟨v2, rfl, ?_, hbw.trans hb2⟩
  have e : ∀ (m : Int) (l : List Int), (m :: l).length = 1 + l.length ∧ bv (m :: l) = bv [m] ++ bv l := fun m l => ⟨by simp; omega, rfl⟩
  rw [(e _ _).1, (e _ _).2]
  exact ho2

set_option maxRecDepth 100000 in
set_option maxHeartbeats 400000 in
theorem headR_2_8 (n : Int) (d : ByteArray) (w : World) (hn0 : 0 ≤ n) (h1 : 4294967296 ≤ n) : Calls Tryd.prog 54 #[itemV 2 n d] w (RowPost w.heap.size w (encHead 1 n)) := by
  rw [encHead8 h1]
  unfold itemV
  go_enter Tryd.func54, Tryd.ntmps54
  go_wp2_with (first | (go_at_call 77; refine (words1_any _ n _ (cell_new5 _ _ _ _) (by simp) hn0).mono ?_; rintro e w' ⟨v', rfl, ho, hb⟩) | (at_builtin; refine app_row rfl _ _ rfl w.heap.size _ 1 _ _ v' _ (own_below (own_new6 w _ _ _) hb) rfl ho rfl (by simp [beBytes_len]) (by omega) (by simp [beBytes_len]) (by have := hb.size; simp at this; omega) ?_; intro v2 w2 ho2 hb2))
  go_ret
  have hbw : Below w.heap.size w w' := ((((Below.refl _ w).alloc (Nat.le_refl _) _).alloc (by simp) _).alloc (by simp; omega) _).trans (hb.mono (by simp; omega))
  refine ⟨v2, rfl, ?_, hbw.trans hb2⟩
  have e : ∀ (m : Int) (l : List Int), (m :: l).length = 1 + l.length ∧ bv (m :: l) = bv [m] ++ bv l := fun m l => ⟨by simp; omega, rfl⟩
  rw [(e _ _).1, (e _ _).2]
  exact ho2

set_option maxRecDepth 100000 in
set_option maxHeartbeats 400000 in
theorem headR_5_8 (n : Int) (d : ByteArray) (w : World) (hn0 : 0 ≤ n) (h1 : 4294967296 ≤ n) : Calls Tryd.prog 54 #[itemV 5 n d] w (RowPost w.heap.size w (encHead 4 n)) := by
  rw [encHead8 h1]
  unfold itemV
  go_enter Tryd.func54, Tryd.ntmps54
  go_wp2_with (first | (go_at_call 77; refine (words1_any _ n _ (cell_new5 _ _ _ _) (by simp) hn0).mono ?_; rintro e w' ⟨v', rfl, ho, hb⟩) | (at_builtin; refine app_row rfl _ _ rfl w.heap.size _ 1 _ _ v' _ (own_below (own_new6 w _ _ _) hb) rfl ho rfl (by simp [beBytes_len]) (by omega) (by simp [beBytes_len]) (by have := hb.size; simp at this; omega) ?_; intro v2 w2 ho2 hb2))
  go_ret
  have hbw : Below w.heap.size w w' := ((((Below.refl _ w).alloc (Nat.le_refl _) _).alloc (by simp) _).alloc (by simp; omega) _).trans (hb.mono (by simp; omega))
  refine ⟨v2, rfl, ?_, hbw.trans hb2⟩
  have e : ∀ (m : Int) (l : List Int), (m :: l).length = 1 + l.length ∧ bv (m :: l) = bv [m] ++ bv l := fun m l => ⟨by simp; omega, rfl⟩
  rw [(e _ _).1, (e _ _).2]
  exact ho2

set_option maxRecDepth 100000 in
set_option maxHeartbeats 400000 in
theorem headR_6_8 (n : Int) (d : ByteArray) (w : World) (hn0 : 0 ≤ n) (h1 : 4294967296 ≤ n) : Calls Tryd.prog 54 #[itemV 6 n d] w (RowPost w.heap.size w (encHead 5 n)) := by
  rw [encHead8 h1]
  unfold itemV
  go_enter Tryd.func54, Tryd.ntmps54
  go_wp2_with (first | (go_at_call 77; refine (words1_any _ n _ (cell_new5 _ _ _ _) (by simp) hn0).mono ?_; rintro e w' ⟨v', rfl, ho, hb⟩) | (at_builtin; refine app_row rfl _ _ rfl w.heap.size _ 1 _ _ v' _ (own_below (own_new6 w _ _ _) hb) rfl ho rfl (by simp [beBytes_len]) (by omega) (by simp [beBytes_len]) (by have := hb.size; simp at this; omega) ?_; intro v2 w2 ho2 hb2))
  go_ret
  have hbw : Below w.heap.size w w' := ((((Below.refl _ w).alloc (Nat.le_refl _) _).alloc (by simp) _).alloc (by simp; omega) _).trans (hb.mono (by simp; omega))
  refine ⟨v2, rfl, ?_, hbw.trans hb2⟩
  have e : ∀ (m : Int) (l : List Int), (m :: l).length = 1 + l.length ∧ bv (m :: l) = bv [m] ++ bv l := fun m l => ⟨by simp; omega, rfl⟩
  rw [(e _ _).1, (e _ _).2]
  exact ho2

theorem headR_any (k n : Int) (d : ByteArray) (w : World) (hk0 : 1 ≤ k) (hk1 : k ≤ 8) (hn0 : 0 ≤ n) (h7 : k = 7 → n ≤ 1) (hd : d.size ≤ 1100) : Calls Tryd.prog 54 #[itemV k n d] w (RowPost w.heap.size w (headR k n d)) := by
  have hs : k = 1 ∨ k = 2 ∨ k = 3 ∨ k = 4 ∨ k = 5 ∨ k = 6 ∨ k = 7 ∨ k = 8 := by omega
  have r : n < 24 ∨ (24 ≤ n ∧ n < 256) ∨ (256 ≤ n ∧ n < 65536) ∨ (65536 ≤ n ∧ n < 4294967296) ∨ 4294967296 ≤ n := by omega
  have rd : (d.size : Int) < 24 ∨ (24 ≤ (d.size : Int) ∧ (d.size : Int) < 256) ∨ (256 ≤ (d.size : Int) ∧ (d.size : Int) < 65536) := by omega
  rcases hs with rfl | rfl | rfl | rfl | rfl | rfl | rfl | rfl
  · have e : headR 1 n d = encHead 0 n := by simp [headR, argN, hasDataB]
    rw [e]
    rcases r with h | ⟨h, h2⟩ | ⟨h, h2⟩ | ⟨h, h2⟩ | h
    · exact headR_1_s n d w hn0 h
    · exact headR_1_1 n d w hn0 h h2
    · exact headR_1_2 n d w hn0 h h2
    · exact headR_1_4 n d w hn0 h h2
    · exact headR_1_8 n d w hn0 h
  · have e : headR 2 n d = encHead 1 n := by simp [headR, argN, hasDataB]
    rw [e]
    rcases r with h | ⟨h, h2⟩ | ⟨h, h2⟩ | ⟨h, h2⟩ | h
    · exact headR_2_s n d w hn0 h
    · exact headR_2_1 n d w hn0 h h2
    · exact headR_2_2 n d w hn0 h h2
    · exact headR_2_4 n d w hn0 h h2
    · exact headR_2_8 n d w hn0 h
  · have e : headR 3 n d = encHead 2 (d.size : Int) := by simp [headR, argN, hasDataB]
    rw [e]
    rcases rd with h | ⟨h, h2⟩ | ⟨h, h2⟩
    · exact headR_3_s n d w hd h
    · exact headR_3_1 n d w hd h h2
    · exact headR_3_2 n d w hd h h2
  · have e : headR 4 n d = encHead 3 (d.size : Int) := by simp [headR, argN, hasDataB]
    rw [e]
    rcases rd with h | ⟨h, h2⟩ | ⟨h, h2⟩
    · exact headR_4_s n d w hd h
    · exact headR_4_1 n d w hd h h2
    · exact headR_4_2 n d w hd h h2
  · have e : headR 5 n d = encHead 4 n := by simp [headR, argN, hasDataB]
    rw [e]
    rcases r with h | ⟨h, h2⟩ | ⟨h, h2⟩ | ⟨h, h2⟩ | h
    · exact headR_5_s n d w hn0 h
    · exact headR_5_1 n d w hn0 h h2
    · exact headR_5_2 n d w hn0 h h2
    · exact headR_5_4 n d w hn0 h h2
    · exact headR_5_8 n d w hn0 h
  · have e : headR 6 n d = encHead 5 n := by simp [headR, argN, hasDataB]
    rw [e]
    rcases r with h | ⟨h, h2⟩ | ⟨h, h2⟩ | ⟨h, h2⟩ | h
    · exact headR_6_s n d w hn0 h
    · exact headR_6_1 n d w hn0 h h2
    · exact headR_6_2 n d w hn0 h h2
    · exact headR_6_4 n d w hn0 h h2
    · exact headR_6_8 n d w hn0 h
  · exact headR_7 n d w hn0 (h7 rfl)
  · exact headR_8 n d w

end Go.Proofs.YtepinmeidjlmmaaDoor

namespace Go.Proofs.YtepinmeidjlmmaaDoor
open Go.RowKit

theorem conv_row {w : World} {base : Nat} {v : Value} {l : List Int} (h : w.ownsRow base 5 1 v l.length (bv l)) (hl : 0 < l.length) : (convert 25 9 v).run Tryd.prog w = .ok (.string (strOfNums l)) w := by
  rcases h.2 with ⟨_, h0⟩ | ⟨g, cap, cur, rfl, _⟩
  · omega
  refine run_convert_bytes_arg w 25 5 Tryd.underlying25 Tryd.underlying5 g 0 l.length cap l rfl (fun i hi => ?_) 9 Tryd.underlying9
  rw [Nat.zero_add, h.cellAt _ (by omega)]
  simp [bv, List.getD, hi]

theorem headR_pos (k n : Int) (d : ByteArray) : 0 < (headR k n d).length := by
  unfold headR
  split
  · simp
  split
  · simp
  unfold encHead
  split
  · simp
  split
  · simp
  split
  · simp
  split <;> simp

theorem below_after2 {w W w9 : World} (h1 : Below w.heap.size w W) (h2 : Below W.drew.heap.size W.drew w9) : Below w.heap.size w w9 := h1.drew.trans (h2.mono h1.size)

def bytesS (k n : Int) (d : ByteArray) : ByteArray := strOfNums (headR k n d) ++ d
set_option maxRecDepth 100000 in
set_option maxHeartbeats 1000000 in
theorem bytesR_any (k n : Int) (d : ByteArray) (w : World) (hk0 : 1 ≤ k) (hk1 : k ≤ 8) (hn0 : 0 ≤ n) (h7 : k = 7 → n ≤ 1) (hd : d.size ≤ 1100) :
    Calls Tryd.prog 38 #[itemV k n d] w fun e w' => e = .returned (.string (bytesS k n d)) ∧ Below w.heap.size w w' := by
  have HS0 := Lib.hid (BoxS.mk' (heap_new w (.cells #[.int .i64 k, .int .u64 n, .string d] 58)))
  have HB0 := Lib.hid ((Below.refl w.heap.size w).alloc (Nat.le_refl _) (.cells #[.int .i64 k, .int .u64 n, .string d] 58))
  have HC := Lib.hid (fun (W : World) => headR_any k n d W hk0 hk1 hn0 h7 hd)
  have hlen : (headR k n d).length ≤ 9 := by
    unfold headR
    split
    · simp
    split
    · simp
    exact encHead_len _ _
  have hsum : (strOfNums (headR k n d)).size + d.size ≤ 9223372036854775807 := by rw [strOfNums_size]; omega
  have hsum2 : ((strOfNums (headR k n d)).size : Int) + (d.size : Int) ≤ 9223372036854775807 := by omega
  have hadd := fun (W : World) => run_string_add_sum (P := Tryd.prog) (w := W) (strOfNums (headR k n d)) d hsum
  unfold itemV
  go_enter Tryd.func38, Tryd.ntmps38
  go_wp2_with fail
  go_region_with (go_at_call 54; refine (HC.out _).mono ?_; rintro e w2 ⟨v2, rfl, ho2, hb2⟩; have hcv2 := conv_row ho2 (headR_pos k n d); have hc2 := (hb2.cell (p := ⟨w.heap.size, 2, none⟩) (by simp)).trans HS0.out.2.2.2)
  all_goals go_wp2
  all_goals go_ret
  all_goals exact ⟨rfl, below_after2 HB0.out hb2⟩

def lessB (a b : ByteArray) : Bool := if a.size = b.size then Op.bytesLess a.toList b.toList else decide (a.size < b.size)
set_option maxRecDepth 100000 in
set_option maxHeartbeats 400000 in
theorem less_ne (a b : ByteArray) (w : World) (h : a.size ≠ b.size) : Calls Tryd.prog 70 #[.string a, .string b] w fun e w' => e = .returned (.bool (decide (a.size < b.size))) ∧ w = w' := by
  have h1 : ((a.size : Int) != (b.size : Int)) = true := by simp; omega
  go_enter Tryd.func70, Tryd.ntmps70
  go_wp2
  go_ret
  exact ⟨rfl, rfl⟩
set_option maxRecDepth 100000 in
set_option maxHeartbeats 400000 in
theorem less_eq (a b : ByteArray) (w : World) (h : a.size = b.size) : Calls Tryd.prog 70 #[.string a, .string b] w fun e w' => e = .returned (.bool (lessB a b)) ∧ w = w' := by
  have h1 : ((a.size : Int) != (b.size : Int)) = false := by simp; omega
  go_enter Tryd.func70, Tryd.ntmps70
  go_wp2
  go_ret
  exact ⟨by rw [lessB, if_pos h]; rfl, rfl⟩
theorem less_any (a b : ByteArray) (w : World) : Calls Tryd.prog 70 #[.string a, .string b] w fun e w' => e = .returned (.bool (lessB a b)) ∧ w = w' := by
  by_cases h : a.size = b.size
  · exact less_eq a b w h
  · have e : lessB a b = decide (a.size < b.size) := by rw [lessB, if_neg h]
    rw [e]
    exact less_ne a b w h

def checkRE (c dep : Nat) (key : Bool) (bf : ByteArray) (k n : Int) (d : ByteArray) : Int :=
  if 512 ≤ c then 8 else if k < 1 ∨ 8 < k then 3 else if key = true ∧ canKeyB k = false then 3 else if 8 < dep then 5 else if shapeB k n d = false then 4 else if tooLargeB k (argN k n d) = true then 8
  else if k = 4 ∧ Lib.validD d.data.toList = false then 6 else if key = true ∧ bf.toList.isEmpty = false ∧ lessB bf (bytesS k n d) = false then 7 else 0
abbrev CheckPost (w : World) (r : Int) (e : Ending) (w' : World) : Prop := e = .returned (.int .i64 r) ∧ Below w.heap.size w w'

theorem below_aft {w W w9 : World} (h1 : Below w.heap.size w W) (h2 : Below W.heap.size W w9) : Below w.heap.size w w9 := h1.trans (h2.mono h1.size)
end Go.Proofs.YtepinmeidjlmmaaDoor

namespace Go.Proofs.YtepinmeidjlmmaaDoor
open Go.RowKit

set_option maxRecDepth 100000 in
set_option maxHeartbeats 400000 in
theorem ck1true_at (c dep : Nat) (bf : ByteArray) (n : Int) (d : ByteArray) (w : World) (hat : 512 ≤ (c : Int)) :
    Calls Tryd.prog 61 #[itemV 1 n d, .int .i64 c, .int .i64 dep, .bool true, .string bf] w (CheckPost w 8) := by
  have HB0 := Lib.hid ((Below.refl w.heap.size w).alloc (Nat.le_refl _) (.cells #[.int .i64 1, .int .u64 n, .string d] 58))
  unfold itemV
  go_enter Tryd.func61, Tryd.ntmps61
  go_wp2_with (first | (go_at_call 80; refine (within_any _ _ _ _).mono ?_; rintro e w1 ⟨rfl, rfl⟩) | (go_at_call 68; refine (isKey_any _ _).mono ?_; rintro e w1 ⟨rfl, rfl⟩) | (go_at_call 69; refine (HV.out _ (by first | exact HB0.out | exact HB0.out.drew)).mono ?_; rintro e w2 ⟨rfl, hb2⟩) | (go_at_call 38; refine (HBY.out _).mono ?_; rintro e w3 ⟨rfl, hb3⟩) | (go_at_call 70; refine (less_any _ _ _).mono ?_; rw [HL.out]; rintro e w4 ⟨rfl, rfl⟩))
  go_ret
  exact ⟨rfl, by first | exact HB0.out⟩

set_option maxRecDepth 100000 in
set_option maxHeartbeats 400000 in
theorem ck1true_dep (c dep : Nat) (bf : ByteArray) (n : Int) (d : ByteArray) (w : World) (hat : (c : Int) < 512) (hdep : 8 < (dep : Int)) :
    Calls Tryd.prog 61 #[itemV 1 n d, .int .i64 c, .int .i64 dep, .bool true, .string bf] w (CheckPost w 5) := by
  have HB0 := Lib.hid ((Below.refl w.heap.size w).alloc (Nat.le_refl _) (.cells #[.int .i64 1, .int .u64 n, .string d] 58))
  unfold itemV
  go_enter Tryd.func61, Tryd.ntmps61
  go_wp2_with (first | (go_at_call 80; refine (within_any _ _ _ _).mono ?_; rintro e w1 ⟨rfl, rfl⟩) | (go_at_call 68; refine (isKey_any _ _).mono ?_; rintro e w1 ⟨rfl, rfl⟩) | (go_at_call 69; refine (HV.out _ (by first | exact HB0.out | exact HB0.out.drew)).mono ?_; rintro e w2 ⟨rfl, hb2⟩) | (go_at_call 38; refine (HBY.out _).mono ?_; rintro e w3 ⟨rfl, hb3⟩) | (go_at_call 70; refine (less_any _ _ _).mono ?_; rw [HL.out]; rintro e w4 ⟨rfl, rfl⟩))
  go_ret
  exact ⟨rfl, by first | exact HB0.out⟩

set_option maxRecDepth 100000 in
set_option maxHeartbeats 400000 in
theorem ck1true_ndata (c dep : Nat) (bf : ByteArray) (n : Int) (d : ByteArray) (w : World) (hat : (c : Int) < 512) (hdep : (dep : Int) ≤ 8) (hde : d.toList.isEmpty = false) :
    Calls Tryd.prog 61 #[itemV 1 n d, .int .i64 c, .int .i64 dep, .bool true, .string bf] w (CheckPost w 4) := by
  have HB0 := Lib.hid ((Below.refl w.heap.size w).alloc (Nat.le_refl _) (.cells #[.int .i64 1, .int .u64 n, .string d] 58))
  unfold itemV
  go_enter Tryd.func61, Tryd.ntmps61
  go_wp2_with (first | (go_at_call 80; refine (within_any _ _ _ _).mono ?_; rintro e w1 ⟨rfl, rfl⟩) | (go_at_call 68; refine (isKey_any _ _).mono ?_; rintro e w1 ⟨rfl, rfl⟩) | (go_at_call 69; refine (HV.out _ (by first | exact HB0.out | exact HB0.out.drew)).mono ?_; rintro e w2 ⟨rfl, hb2⟩) | (go_at_call 38; refine (HBY.out _).mono ?_; rintro e w3 ⟨rfl, hb3⟩) | (go_at_call 70; refine (less_any _ _ _).mono ?_; rw [HL.out]; rintro e w4 ⟨rfl, rfl⟩))
  go_ret
  exact ⟨rfl, by first | exact HB0.out⟩

set_option maxRecDepth 100000 in
set_option maxHeartbeats 400000 in
theorem ck1false_at (c dep : Nat) (bf : ByteArray) (n : Int) (d : ByteArray) (w : World) (hat : 512 ≤ (c : Int)) :
    Calls Tryd.prog 61 #[itemV 1 n d, .int .i64 c, .int .i64 dep, .bool false, .string bf] w (CheckPost w 8) := by
  have HB0 := Lib.hid ((Below.refl w.heap.size w).alloc (Nat.le_refl _) (.cells #[.int .i64 1, .int .u64 n, .string d] 58))
  unfold itemV
  go_enter Tryd.func61, Tryd.ntmps61
  go_wp2_with (first | (go_at_call 80; refine (within_any _ _ _ _).mono ?_; rintro e w1 ⟨rfl, rfl⟩) | (go_at_call 68; refine (isKey_any _ _).mono ?_; rintro e w1 ⟨rfl, rfl⟩) | (go_at_call 69; refine (HV.out _ (by first | exact HB0.out | exact HB0.out.drew)).mono ?_; rintro e w2 ⟨rfl, hb2⟩) | (go_at_call 38; refine (HBY.out _).mono ?_; rintro e w3 ⟨rfl, hb3⟩) | (go_at_call 70; refine (less_any _ _ _).mono ?_; rw [HL.out]; rintro e w4 ⟨rfl, rfl⟩))
  go_ret
  exact ⟨rfl, by first | exact HB0.out⟩

set_option maxRecDepth 100000 in
set_option maxHeartbeats 400000 in
theorem ck1false_dep (c dep : Nat) (bf : ByteArray) (n : Int) (d : ByteArray) (w : World) (hat : (c : Int) < 512) (hdep : 8 < (dep : Int)) :
    Calls Tryd.prog 61 #[itemV 1 n d, .int .i64 c, .int .i64 dep, .bool false, .string bf] w (CheckPost w 5) := by
  have HB0 := Lib.hid ((Below.refl w.heap.size w).alloc (Nat.le_refl _) (.cells #[.int .i64 1, .int .u64 n, .string d] 58))
  unfold itemV
  go_enter Tryd.func61, Tryd.ntmps61
  go_wp2_with (first | (go_at_call 80; refine (within_any _ _ _ _).mono ?_; rintro e w1 ⟨rfl, rfl⟩) | (go_at_call 68; refine (isKey_any _ _).mono ?_; rintro e w1 ⟨rfl, rfl⟩) | (go_at_call 69; refine (HV.out _ (by first | exact HB0.out | exact HB0.out.drew)).mono ?_; rintro e w2 ⟨rfl, hb2⟩) | (go_at_call 38; refine (HBY.out _).mono ?_; rintro e w3 ⟨rfl, hb3⟩) | (go_at_call 70; refine (less_any _ _ _).mono ?_; rw [HL.out]; rintro e w4 ⟨rfl, rfl⟩))
  go_ret
  exact ⟨rfl, by first | exact HB0.out⟩

set_option maxRecDepth 100000 in
set_option maxHeartbeats 400000 in
theorem ck1false_ndata (c dep : Nat) (bf : ByteArray) (n : Int) (d : ByteArray) (w : World) (hat : (c : Int) < 512) (hdep : (dep : Int) ≤ 8) (hde : d.toList.isEmpty = false) :
    Calls Tryd.prog 61 #[itemV 1 n d, .int .i64 c, .int .i64 dep, .bool false, .string bf] w (CheckPost w 4) := by
  have HB0 := Lib.hid ((Below.refl w.heap.size w).alloc (Nat.le_refl _) (.cells #[.int .i64 1, .int .u64 n, .string d] 58))
  unfold itemV
  go_enter Tryd.func61, Tryd.ntmps61
  go_wp2_with (first | (go_at_call 80; refine (within_any _ _ _ _).mono ?_; rintro e w1 ⟨rfl, rfl⟩) | (go_at_call 68; refine (isKey_any _ _).mono ?_; rintro e w1 ⟨rfl, rfl⟩) | (go_at_call 69; refine (HV.out _ (by first | exact HB0.out | exact HB0.out.drew)).mono ?_; rintro e w2 ⟨rfl, hb2⟩) | (go_at_call 38; refine (HBY.out _).mono ?_; rintro e w3 ⟨rfl, hb3⟩) | (go_at_call 70; refine (less_any _ _ _).mono ?_; rw [HL.out]; rintro e w4 ⟨rfl, rfl⟩))
  go_ret
  exact ⟨rfl, by first | exact HB0.out⟩

set_option maxRecDepth 100000 in
set_option maxHeartbeats 400000 in
theorem ck1false_ok (c dep : Nat) (bf : ByteArray) (n : Int) (d : ByteArray) (w : World) (hat : (c : Int) < 512) (hdep : (dep : Int) ≤ 8) (hde : d.toList.isEmpty = true) :
    Calls Tryd.prog 61 #[itemV 1 n d, .int .i64 c, .int .i64 dep, .bool false, .string bf] w (CheckPost w 0) := by
  have HB0 := Lib.hid ((Below.refl w.heap.size w).alloc (Nat.le_refl _) (.cells #[.int .i64 1, .int .u64 n, .string d] 58))
  have hsz : (d.size : Int) ≤ 1024 := by have := size_of_empty hde; omega
  unfold itemV
  go_enter Tryd.func61, Tryd.ntmps61
  go_wp2_with (first | (go_at_call 80; refine (within_any _ _ _ _).mono ?_; rintro e w1 ⟨rfl, rfl⟩) | (go_at_call 68; refine (isKey_any _ _).mono ?_; rintro e w1 ⟨rfl, rfl⟩) | (go_at_call 69; refine (HV.out _ (by first | exact HB0.out | exact HB0.out.drew)).mono ?_; rintro e w2 ⟨rfl, hb2⟩) | (go_at_call 38; refine (HBY.out _).mono ?_; rintro e w3 ⟨rfl, hb3⟩) | (go_at_call 70; refine (less_any _ _ _).mono ?_; rw [HL.out]; rintro e w4 ⟨rfl, rfl⟩))
  go_ret
  exact ⟨rfl, by first | exact HB0.out⟩

set_option maxRecDepth 100000 in
set_option maxHeartbeats 400000 in
theorem ck1true_first (c dep : Nat) (bf : ByteArray) (n : Int) (d : ByteArray) (w : World) (hat : (c : Int) < 512) (hdep : (dep : Int) ≤ 8) (hde : d.toList.isEmpty = true) (hbf : bf.toList.isEmpty = true) :
    Calls Tryd.prog 61 #[itemV 1 n d, .int .i64 c, .int .i64 dep, .bool true, .string bf] w (CheckPost w 0) := by
  have HB0 := Lib.hid ((Below.refl w.heap.size w).alloc (Nat.le_refl _) (.cells #[.int .i64 1, .int .u64 n, .string d] 58))
  have hsz : (d.size : Int) ≤ 1024 := by have := size_of_empty hde; omega
  unfold itemV
  go_enter Tryd.func61, Tryd.ntmps61
  go_wp2_with (first | (go_at_call 80; refine (within_any _ _ _ _).mono ?_; rintro e w1 ⟨rfl, rfl⟩) | (go_at_call 68; refine (isKey_any _ _).mono ?_; rintro e w1 ⟨rfl, rfl⟩) | (go_at_call 69; refine (HV.out _ (by first | exact HB0.out | exact HB0.out.drew)).mono ?_; rintro e w2 ⟨rfl, hb2⟩) | (go_at_call 38; refine (HBY.out _).mono ?_; rintro e w3 ⟨rfl, hb3⟩) | (go_at_call 70; refine (less_any _ _ _).mono ?_; rw [HL.out]; rintro e w4 ⟨rfl, rfl⟩))
  go_ret
  exact ⟨rfl, by first | exact HB0.out⟩

set_option maxRecDepth 100000 in
set_option maxHeartbeats 400000 in
theorem ck1true_true (c dep : Nat) (bf : ByteArray) (n : Int) (d : ByteArray) (w : World) (hat : (c : Int) < 512) (hdep : (dep : Int) ≤ 8) (hde : d.toList.isEmpty = true) (hbf : bf.toList.isEmpty = false) (hn0 : 0 ≤ n) (hl : lessB bf (bytesS 1 n d) = true) :
    Calls Tryd.prog 61 #[itemV 1 n d, .int .i64 c, .int .i64 dep, .bool true, .string bf] w (CheckPost w 0) := by
  have HB0 := Lib.hid ((Below.refl w.heap.size w).alloc (Nat.le_refl _) (.cells #[.int .i64 1, .int .u64 n, .string d] 58))
  have hsz : (d.size : Int) ≤ 1024 := by have := size_of_empty hde; omega
  have HBY := Lib.hid (fun (W : World) => bytesR_any 1 n d W (by omega) (by omega) hn0 (by intro h; omega) (by omega))
  have HL := Lib.hid hl
  clear hl
  unfold itemV
  go_enter Tryd.func61, Tryd.ntmps61
  go_wp2_with (first | (go_at_call 80; refine (within_any _ _ _ _).mono ?_; rintro e w1 ⟨rfl, rfl⟩) | (go_at_call 68; refine (isKey_any _ _).mono ?_; rintro e w1 ⟨rfl, rfl⟩) | (go_at_call 69; refine (HV.out _ (by first | exact HB0.out | exact HB0.out.drew)).mono ?_; rintro e w2 ⟨rfl, hb2⟩) | (go_at_call 38; refine (HBY.out _).mono ?_; rintro e w3 ⟨rfl, hb3⟩) | (go_at_call 70; refine (less_any _ _ _).mono ?_; rw [HL.out]; rintro e w4 ⟨rfl, rfl⟩))
  go_ret
  exact ⟨rfl, by first | exact HB0.out | exact below_aft HB0.out hb3⟩

set_option maxRecDepth 100000 in
set_option maxHeartbeats 400000 in
theorem ck1true_false (c dep : Nat) (bf : ByteArray) (n : Int) (d : ByteArray) (w : World) (hat : (c : Int) < 512) (hdep : (dep : Int) ≤ 8) (hde : d.toList.isEmpty = true) (hbf : bf.toList.isEmpty = false) (hn0 : 0 ≤ n) (hl : lessB bf (bytesS 1 n d) = false) :
    Calls Tryd.prog 61 #[itemV 1 n d, .int .i64 c, .int .i64 dep, .bool true, .string bf] w (CheckPost w 7) := by
  have HB0 := Lib.hid ((Below.refl w.heap.size w).alloc (Nat.le_refl _) (.cells #[.int .i64 1, .int .u64 n, .string d] 58))
  have hsz : (d.size : Int) ≤ 1024 := by have := size_of_empty hde; omega
  have HBY := Lib.hid (fun (W : World) => bytesR_any 1 n d W (by omega) (by omega) hn0 (by intro h; omega) (by omega))
  have HL := Lib.hid hl
  clear hl
  unfold itemV
  go_enter Tryd.func61, Tryd.ntmps61
  go_wp2_with (first | (go_at_call 80; refine (within_any _ _ _ _).mono ?_; rintro e w1 ⟨rfl, rfl⟩) | (go_at_call 68; refine (isKey_any _ _).mono ?_; rintro e w1 ⟨rfl, rfl⟩) | (go_at_call 69; refine (HV.out _ (by first | exact HB0.out | exact HB0.out.drew)).mono ?_; rintro e w2 ⟨rfl, hb2⟩) | (go_at_call 38; refine (HBY.out _).mono ?_; rintro e w3 ⟨rfl, hb3⟩) | (go_at_call 70; refine (less_any _ _ _).mono ?_; rw [HL.out]; rintro e w4 ⟨rfl, rfl⟩))
  go_ret
  exact ⟨rfl, by first | exact HB0.out | exact below_aft HB0.out hb3⟩

set_option maxRecDepth 100000 in
set_option maxHeartbeats 400000 in
theorem ck2true_at (c dep : Nat) (bf : ByteArray) (n : Int) (d : ByteArray) (w : World) (hat : 512 ≤ (c : Int)) :
    Calls Tryd.prog 61 #[itemV 2 n d, .int .i64 c, .int .i64 dep, .bool true, .string bf] w (CheckPost w 8) := by
  have HB0 := Lib.hid ((Below.refl w.heap.size w).alloc (Nat.le_refl _) (.cells #[.int .i64 2, .int .u64 n, .string d] 58))
  unfold itemV
  go_enter Tryd.func61, Tryd.ntmps61
  go_wp2_with (first | (go_at_call 80; refine (within_any _ _ _ _).mono ?_; rintro e w1 ⟨rfl, rfl⟩) | (go_at_call 68; refine (isKey_any _ _).mono ?_; rintro e w1 ⟨rfl, rfl⟩) | (go_at_call 69; refine (HV.out _ (by first | exact HB0.out | exact HB0.out.drew)).mono ?_; rintro e w2 ⟨rfl, hb2⟩) | (go_at_call 38; refine (HBY.out _).mono ?_; rintro e w3 ⟨rfl, hb3⟩) | (go_at_call 70; refine (less_any _ _ _).mono ?_; rw [HL.out]; rintro e w4 ⟨rfl, rfl⟩))
  go_ret
  exact ⟨rfl, by first | exact HB0.out⟩

set_option maxRecDepth 100000 in
set_option maxHeartbeats 400000 in
theorem ck2true_dep (c dep : Nat) (bf : ByteArray) (n : Int) (d : ByteArray) (w : World) (hat : (c : Int) < 512) (hdep : 8 < (dep : Int)) :
    Calls Tryd.prog 61 #[itemV 2 n d, .int .i64 c, .int .i64 dep, .bool true, .string bf] w (CheckPost w 5) := by
  have HB0 := Lib.hid ((Below.refl w.heap.size w).alloc (Nat.le_refl _) (.cells #[.int .i64 2, .int .u64 n, .string d] 58))
  unfold itemV
  go_enter Tryd.func61, Tryd.ntmps61
  go_wp2_with (first | (go_at_call 80; refine (within_any _ _ _ _).mono ?_; rintro e w1 ⟨rfl, rfl⟩) | (go_at_call 68; refine (isKey_any _ _).mono ?_; rintro e w1 ⟨rfl, rfl⟩) | (go_at_call 69; refine (HV.out _ (by first | exact HB0.out | exact HB0.out.drew)).mono ?_; rintro e w2 ⟨rfl, hb2⟩) | (go_at_call 38; refine (HBY.out _).mono ?_; rintro e w3 ⟨rfl, hb3⟩) | (go_at_call 70; refine (less_any _ _ _).mono ?_; rw [HL.out]; rintro e w4 ⟨rfl, rfl⟩))
  go_ret
  exact ⟨rfl, by first | exact HB0.out⟩

set_option maxRecDepth 100000 in
set_option maxHeartbeats 400000 in
theorem ck2true_ndata (c dep : Nat) (bf : ByteArray) (n : Int) (d : ByteArray) (w : World) (hat : (c : Int) < 512) (hdep : (dep : Int) ≤ 8) (hde : d.toList.isEmpty = false) :
    Calls Tryd.prog 61 #[itemV 2 n d, .int .i64 c, .int .i64 dep, .bool true, .string bf] w (CheckPost w 4) := by
  have HB0 := Lib.hid ((Below.refl w.heap.size w).alloc (Nat.le_refl _) (.cells #[.int .i64 2, .int .u64 n, .string d] 58))
  unfold itemV
  go_enter Tryd.func61, Tryd.ntmps61
  go_wp2_with (first | (go_at_call 80; refine (within_any _ _ _ _).mono ?_; rintro e w1 ⟨rfl, rfl⟩) | (go_at_call 68; refine (isKey_any _ _).mono ?_; rintro e w1 ⟨rfl, rfl⟩) | (go_at_call 69; refine (HV.out _ (by first | exact HB0.out | exact HB0.out.drew)).mono ?_; rintro e w2 ⟨rfl, hb2⟩) | (go_at_call 38; refine (HBY.out _).mono ?_; rintro e w3 ⟨rfl, hb3⟩) | (go_at_call 70; refine (less_any _ _ _).mono ?_; rw [HL.out]; rintro e w4 ⟨rfl, rfl⟩))
  go_ret
  exact ⟨rfl, by first | exact HB0.out⟩

set_option maxRecDepth 100000 in
set_option maxHeartbeats 400000 in
theorem ck2false_at (c dep : Nat) (bf : ByteArray) (n : Int) (d : ByteArray) (w : World) (hat : 512 ≤ (c : Int)) :
    Calls Tryd.prog 61 #[itemV 2 n d, .int .i64 c, .int .i64 dep, .bool false, .string bf] w (CheckPost w 8) := by
  have HB0 := Lib.hid ((Below.refl w.heap.size w).alloc (Nat.le_refl _) (.cells #[.int .i64 2, .int .u64 n, .string d] 58))
  unfold itemV
  go_enter Tryd.func61, Tryd.ntmps61
  go_wp2_with (first | (go_at_call 80; refine (within_any _ _ _ _).mono ?_; rintro e w1 ⟨rfl, rfl⟩) | (go_at_call 68; refine (isKey_any _ _).mono ?_; rintro e w1 ⟨rfl, rfl⟩) | (go_at_call 69; refine (HV.out _ (by first | exact HB0.out | exact HB0.out.drew)).mono ?_; rintro e w2 ⟨rfl, hb2⟩) | (go_at_call 38; refine (HBY.out _).mono ?_; rintro e w3 ⟨rfl, hb3⟩) | (go_at_call 70; refine (less_any _ _ _).mono ?_; rw [HL.out]; rintro e w4 ⟨rfl, rfl⟩))
  go_ret
  exact ⟨rfl, by first | exact HB0.out⟩

set_option maxRecDepth 100000 in
set_option maxHeartbeats 400000 in
theorem ck2false_dep (c dep : Nat) (bf : ByteArray) (n : Int) (d : ByteArray) (w : World) (hat : (c : Int) < 512) (hdep : 8 < (dep : Int)) :
    Calls Tryd.prog 61 #[itemV 2 n d, .int .i64 c, .int .i64 dep, .bool false, .string bf] w (CheckPost w 5) := by
  have HB0 := Lib.hid ((Below.refl w.heap.size w).alloc (Nat.le_refl _) (.cells #[.int .i64 2, .int .u64 n, .string d] 58))
  unfold itemV
  go_enter Tryd.func61, Tryd.ntmps61
  go_wp2_with (first | (go_at_call 80; refine (within_any _ _ _ _).mono ?_; rintro e w1 ⟨rfl, rfl⟩) | (go_at_call 68; refine (isKey_any _ _).mono ?_; rintro e w1 ⟨rfl, rfl⟩) | (go_at_call 69; refine (HV.out _ (by first | exact HB0.out | exact HB0.out.drew)).mono ?_; rintro e w2 ⟨rfl, hb2⟩) | (go_at_call 38; refine (HBY.out _).mono ?_; rintro e w3 ⟨rfl, hb3⟩) | (go_at_call 70; refine (less_any _ _ _).mono ?_; rw [HL.out]; rintro e w4 ⟨rfl, rfl⟩))
  go_ret
  exact ⟨rfl, by first | exact HB0.out⟩

set_option maxRecDepth 100000 in
set_option maxHeartbeats 400000 in
theorem ck2false_ndata (c dep : Nat) (bf : ByteArray) (n : Int) (d : ByteArray) (w : World) (hat : (c : Int) < 512) (hdep : (dep : Int) ≤ 8) (hde : d.toList.isEmpty = false) :
    Calls Tryd.prog 61 #[itemV 2 n d, .int .i64 c, .int .i64 dep, .bool false, .string bf] w (CheckPost w 4) := by
  have HB0 := Lib.hid ((Below.refl w.heap.size w).alloc (Nat.le_refl _) (.cells #[.int .i64 2, .int .u64 n, .string d] 58))
  unfold itemV
  go_enter Tryd.func61, Tryd.ntmps61
  go_wp2_with (first | (go_at_call 80; refine (within_any _ _ _ _).mono ?_; rintro e w1 ⟨rfl, rfl⟩) | (go_at_call 68; refine (isKey_any _ _).mono ?_; rintro e w1 ⟨rfl, rfl⟩) | (go_at_call 69; refine (HV.out _ (by first | exact HB0.out | exact HB0.out.drew)).mono ?_; rintro e w2 ⟨rfl, hb2⟩) | (go_at_call 38; refine (HBY.out _).mono ?_; rintro e w3 ⟨rfl, hb3⟩) | (go_at_call 70; refine (less_any _ _ _).mono ?_; rw [HL.out]; rintro e w4 ⟨rfl, rfl⟩))
  go_ret
  exact ⟨rfl, by first | exact HB0.out⟩

set_option maxRecDepth 100000 in
set_option maxHeartbeats 400000 in
theorem ck2false_ok (c dep : Nat) (bf : ByteArray) (n : Int) (d : ByteArray) (w : World) (hat : (c : Int) < 512) (hdep : (dep : Int) ≤ 8) (hde : d.toList.isEmpty = true) :
    Calls Tryd.prog 61 #[itemV 2 n d, .int .i64 c, .int .i64 dep, .bool false, .string bf] w (CheckPost w 0) := by
  have HB0 := Lib.hid ((Below.refl w.heap.size w).alloc (Nat.le_refl _) (.cells #[.int .i64 2, .int .u64 n, .string d] 58))
  have hsz : (d.size : Int) ≤ 1024 := by have := size_of_empty hde; omega
  unfold itemV
  go_enter Tryd.func61, Tryd.ntmps61
  go_wp2_with (first | (go_at_call 80; refine (within_any _ _ _ _).mono ?_; rintro e w1 ⟨rfl, rfl⟩) | (go_at_call 68; refine (isKey_any _ _).mono ?_; rintro e w1 ⟨rfl, rfl⟩) | (go_at_call 69; refine (HV.out _ (by first | exact HB0.out | exact HB0.out.drew)).mono ?_; rintro e w2 ⟨rfl, hb2⟩) | (go_at_call 38; refine (HBY.out _).mono ?_; rintro e w3 ⟨rfl, hb3⟩) | (go_at_call 70; refine (less_any _ _ _).mono ?_; rw [HL.out]; rintro e w4 ⟨rfl, rfl⟩))
  go_ret
  exact ⟨rfl, by first | exact HB0.out⟩

set_option maxRecDepth 100000 in
set_option maxHeartbeats 400000 in
theorem ck2true_first (c dep : Nat) (bf : ByteArray) (n : Int) (d : ByteArray) (w : World) (hat : (c : Int) < 512) (hdep : (dep : Int) ≤ 8) (hde : d.toList.isEmpty = true) (hbf : bf.toList.isEmpty = true) :
    Calls Tryd.prog 61 #[itemV 2 n d, .int .i64 c, .int .i64 dep, .bool true, .string bf] w (CheckPost w 0) := by
  have HB0 := Lib.hid ((Below.refl w.heap.size w).alloc (Nat.le_refl _) (.cells #[.int .i64 2, .int .u64 n, .string d] 58))
  have hsz : (d.size : Int) ≤ 1024 := by have := size_of_empty hde; omega
  unfold itemV
  go_enter Tryd.func61, Tryd.ntmps61
  go_wp2_with (first | (go_at_call 80; refine (within_any _ _ _ _).mono ?_; rintro e w1 ⟨rfl, rfl⟩) | (go_at_call 68; refine (isKey_any _ _).mono ?_; rintro e w1 ⟨rfl, rfl⟩) | (go_at_call 69; refine (HV.out _ (by first | exact HB0.out | exact HB0.out.drew)).mono ?_; rintro e w2 ⟨rfl, hb2⟩) | (go_at_call 38; refine (HBY.out _).mono ?_; rintro e w3 ⟨rfl, hb3⟩) | (go_at_call 70; refine (less_any _ _ _).mono ?_; rw [HL.out]; rintro e w4 ⟨rfl, rfl⟩))
  go_ret
  exact ⟨rfl, by first | exact HB0.out⟩

set_option maxRecDepth 100000 in
set_option maxHeartbeats 400000 in
theorem ck2true_true (c dep : Nat) (bf : ByteArray) (n : Int) (d : ByteArray) (w : World) (hat : (c : Int) < 512) (hdep : (dep : Int) ≤ 8) (hde : d.toList.isEmpty = true) (hbf : bf.toList.isEmpty = false) (hn0 : 0 ≤ n) (hl : lessB bf (bytesS 2 n d) = true) :
    Calls Tryd.prog 61 #[itemV 2 n d, .int .i64 c, .int .i64 dep, .bool true, .string bf] w (CheckPost w 0) := by
  have HB0 := Lib.hid ((Below.refl w.heap.size w).alloc (Nat.le_refl _) (.cells #[.int .i64 2, .int .u64 n, .string d] 58))
  have hsz : (d.size : Int) ≤ 1024 := by have := size_of_empty hde; omega
  have HBY := Lib.hid (fun (W : World) => bytesR_any 2 n d W (by omega) (by omega) hn0 (by intro h; omega) (by omega))
  have HL := Lib.hid hl
  clear hl
  unfold itemV
  go_enter Tryd.func61, Tryd.ntmps61
  go_wp2_with (first | (go_at_call 80; refine (within_any _ _ _ _).mono ?_; rintro e w1 ⟨rfl, rfl⟩) | (go_at_call 68; refine (isKey_any _ _).mono ?_; rintro e w1 ⟨rfl, rfl⟩) | (go_at_call 69; refine (HV.out _ (by first | exact HB0.out | exact HB0.out.drew)).mono ?_; rintro e w2 ⟨rfl, hb2⟩) | (go_at_call 38; refine (HBY.out _).mono ?_; rintro e w3 ⟨rfl, hb3⟩) | (go_at_call 70; refine (less_any _ _ _).mono ?_; rw [HL.out]; rintro e w4 ⟨rfl, rfl⟩))
  go_ret
  exact ⟨rfl, by first | exact HB0.out | exact below_aft HB0.out hb3⟩

set_option maxRecDepth 100000 in
set_option maxHeartbeats 400000 in
theorem ck2true_false (c dep : Nat) (bf : ByteArray) (n : Int) (d : ByteArray) (w : World) (hat : (c : Int) < 512) (hdep : (dep : Int) ≤ 8) (hde : d.toList.isEmpty = true) (hbf : bf.toList.isEmpty = false) (hn0 : 0 ≤ n) (hl : lessB bf (bytesS 2 n d) = false) :
    Calls Tryd.prog 61 #[itemV 2 n d, .int .i64 c, .int .i64 dep, .bool true, .string bf] w (CheckPost w 7) := by
  have HB0 := Lib.hid ((Below.refl w.heap.size w).alloc (Nat.le_refl _) (.cells #[.int .i64 2, .int .u64 n, .string d] 58))
  have hsz : (d.size : Int) ≤ 1024 := by have := size_of_empty hde; omega
  have HBY := Lib.hid (fun (W : World) => bytesR_any 2 n d W (by omega) (by omega) hn0 (by intro h; omega) (by omega))
  have HL := Lib.hid hl
  clear hl
  unfold itemV
  go_enter Tryd.func61, Tryd.ntmps61
  go_wp2_with (first | (go_at_call 80; refine (within_any _ _ _ _).mono ?_; rintro e w1 ⟨rfl, rfl⟩) | (go_at_call 68; refine (isKey_any _ _).mono ?_; rintro e w1 ⟨rfl, rfl⟩) | (go_at_call 69; refine (HV.out _ (by first | exact HB0.out | exact HB0.out.drew)).mono ?_; rintro e w2 ⟨rfl, hb2⟩) | (go_at_call 38; refine (HBY.out _).mono ?_; rintro e w3 ⟨rfl, hb3⟩) | (go_at_call 70; refine (less_any _ _ _).mono ?_; rw [HL.out]; rintro e w4 ⟨rfl, rfl⟩))
  go_ret
  exact ⟨rfl, by first | exact HB0.out | exact below_aft HB0.out hb3⟩

end Go.Proofs.YtepinmeidjlmmaaDoor
