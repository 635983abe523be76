import Derived.Test.YtepinmeidjlmmaaDoorB7
namespace Go.Proofs.YtepinmeidjlmmaaDoor
open Go.RowKit

/-- the reference's parts: new bytes -/
def RowPost (base : Nat) (w : World) (l : List Int) (e : Ending) (w' : World) : Prop := ∃ v', e = .returned v' ∧ w'.ownsRow base 5 1 v' l.length (bv l) ∧ Below base w w'

set_option maxRecDepth 100000 in
set_option maxHeartbeats 400000 in
theorem within_any (n lo hi : Int) (w : World) : Calls Tryd.prog 80 #[.int .i64 n, .int .i64 lo, .int .i64 hi] w fun e w' => e = .returned (.bool (decide (lo ≤ n) && decide (n ≤ hi))) ∧ w = w' := by
  by_cases h1 : lo ≤ n
  · by_cases h2 : n ≤ hi
    · rw [decide_eq_true h1, decide_eq_true h2]
      go_enter Tryd.func80, Tryd.ntmps80
      go_wp2
      go_ret
      exact ⟨rfl, rfl⟩
    · rw [decide_eq_true h1, decide_eq_false h2]
      go_enter Tryd.func80, Tryd.ntmps80
      go_wp2
      go_ret
      exact ⟨rfl, rfl⟩
  · rw [decide_eq_false h1]
    go_enter Tryd.func80, Tryd.ntmps80
    go_wp2
    go_ret
    exact ⟨rfl, rfl⟩

def isKeyB (k : Int) : Bool := k == 1 || k == 2 || k == 4
set_option maxRecDepth 100000 in
set_option maxHeartbeats 400000 in
theorem isKey_any (k : Int) (w : World) : Calls Tryd.prog 68 #[.int .i64 k] w fun e w' => e = .returned (.bool (isKeyB k)) ∧ w = w' := by
  by_cases h1 : k = 1
  · subst h1
    go_enter Tryd.func68, Tryd.ntmps68
    go_wp2
    go_ret
    exact ⟨rfl, rfl⟩
  by_cases h2 : k = 2
  · subst h2
    go_enter Tryd.func68, Tryd.ntmps68
    go_wp2
    go_ret
    exact ⟨rfl, rfl⟩
  by_cases h4 : k = 4
  · subst h4
    go_enter Tryd.func68, Tryd.ntmps68
    go_wp2
    go_ret
    exact ⟨rfl, rfl⟩
  go_enter Tryd.func68, Tryd.ntmps68
  go_wp2
  go_ret
  exact ⟨rfl, rfl⟩

def headR (k n : Int) (d : ByteArray) : List Int := if k = 7 then [244 + n] else if k = 8 then [246] else encHead (k - 1) (argN k n d)
theorem row_lit (w : World) (l : List Int) (cs : Array Value) (n base : Nat) (hb : base ≤ w.heap.size) (hn : l.length = n) (hm : n ≤ 1000) (hcs : cs.toList = bv l) : (w.alloc (.cells cs 5)).ownsRow base 5 1 (.slice (some ⟨w.heap.size, 0, none⟩) n n) l.length (bv l) := by
  subst hn
  have h := World.ownsRow_lit (e := 5) (size := 1) w cs l.length hb (by unfold maxLen; omega) (by rw [← Array.length_toList, hcs, bv_len]; omega)
  rw [hcs] at h
  exact h

set_option maxRecDepth 100000 in
set_option maxHeartbeats 400000 in
theorem words1_any (b : Nat) (n : Int) (w : World) (hc : w.cell? ⟨b, 0, none⟩ = some (.int .u64 n)) (hb : b < w.heap.size) (hn0 : 0 ≤ n) :
    Calls Tryd.prog 77 #[.slice (some ⟨b, 0, none⟩) 1 1] w (RowPost w.heap.size w (beBytes n 8 8)) := by
  have HC := Lib.hid hc
  clear hc
  go_enter Tryd.func77, Tryd.ntmps77
  go_wp2_with fail
  refine wp_loop_rounds 2 ?_
  rw [rounds_succ]
  go_wp2_with fail
  go_loopw [3, 5] (fun v k wr => ∃ j : Nat, j ≤ 8 ∧ k = .int .i64 (7 - j) ∧ wr.ownsRow w.heap.size 5 1 v j (bv (beBytes n 8 j)) ∧ Below w.heap.size w wr) (fun _ k _ => (intOf k + 1).toNat)
  case atStart => exact ⟨0, by omega, by simp, World.ownsRow_nil _ _ _ _, Below.refl _ _⟩
  case round =>
    obtain ⟨j, hj, rfl, hok, hbk⟩ := hrel
    by_cases hlt : j < 8
    · have hcr := (hbk.cell (p := ⟨b, 0, none⟩) hb).trans HC.out
      go_wp2_with (at_builtin; (refine app_byte rfl _ _ rfl w.heap.size _ j _ _ hok rfl _ rfl rfl (by omega) hbk.size ?_); intro v2 w2 ho2 hb2 hk2)
      go_roundw
      case rel => exact ⟨j + 1, by omega, by go_num, by rw [beBytes_succ, bv_app]; exact ho2, hbk.trans hb2⟩
      case measure => simp [intOf]; omega
    · obtain rfl : j = 8 := by omega
      go_wp2_with fail
      rw [rounds_succ]
      go_wp2
      go_ret
      exact ⟨_, rfl, hok, hbk⟩

theorem row_end (w : World) (o1 : Obj) (l : List Int) (cs : Array Value) (n : Nat) (hn : l.length = n) (hm : n ≤ 1000) (hcs : cs.toList = bv l) : RowPost w.heap.size w l (.returned (.slice (some ⟨w.heap.size + 1, 0, none⟩) n n)) ((w.alloc o1).alloc (.cells cs 5)) := by
  have h := row_lit (w.alloc o1) l cs n w.heap.size (by simp) hn hm hcs
  rw [show (w.alloc o1).heap.size = w.heap.size + 1 from by simp] at h
  exact ⟨_, rfl, h, ((Below.refl _ w).alloc (Nat.le_refl _) _).alloc (by simp) _⟩

theorem row_end_d (w : World) (o1 : Obj) (l : List Int) (cs : Array Value) (n : Nat) (hn : l.length = n) (hm : n ≤ 1000) (hcs : cs.toList = bv l) : RowPost w.heap.size w l (.returned (.slice (some ⟨w.heap.size + 1, 0, none⟩) n n)) ((w.alloc o1).alloc (.cells cs 5)).drew := by
  obtain ⟨v', h1, h2, h3⟩ := row_end w o1 l cs n hn hm hcs
  exact ⟨v', h1, h2, h3.drew⟩

set_option maxRecDepth 100000 in
set_option maxHeartbeats 400000 in
theorem headR_1_s (n : Int) (d : ByteArray) (w : World) (hn0 : 0 ≤ n) (h1 : n < 24) : Calls Tryd.prog 54 #[itemV 1 n d] w (RowPost w.heap.size w (encHead 0 n)) := by
  rw [encHead0 h1]
  unfold itemV
  go_enter Tryd.func54, Tryd.ntmps54
  go_wp2
  go_ret
  refine row_end w _ _ _ _ rfl (by decide) ?_
  simp [bv, beBytes, beByte, List.range_succ] <;> omega

set_option maxRecDepth 100000 in
set_option maxHeartbeats 400000 in
theorem headR_1_1 (n : Int) (d : ByteArray) (w : World) (hn0 : 0 ≤ n) (h1 : 24 ≤ n) (h2 : n < 256) : Calls Tryd.prog 54 #[itemV 1 n d] w (RowPost w.heap.size w (encHead 0 n)) := by
  rw [encHead1 h1 h2]
  unfold itemV
  go_enter Tryd.func54, Tryd.ntmps54
  go_wp2
  go_ret
  refine row_end w _ _ _ _ rfl (by decide) ?_
  simp [bv, beBytes, beByte, List.range_succ] <;> omega

set_option maxRecDepth 100000 in
set_option maxHeartbeats 400000 in
theorem headR_1_2 (n : Int) (d : ByteArray) (w : World) (hn0 : 0 ≤ n) (h1 : 256 ≤ n) (h2 : n < 65536) : Calls Tryd.prog 54 #[itemV 1 n d] w (RowPost w.heap.size w (encHead 0 n)) := by
  rw [encHead2 h1 h2]
  unfold itemV
  go_enter Tryd.func54, Tryd.ntmps54
  go_wp2
  go_ret
  refine row_end w _ _ _ _ rfl (by decide) ?_
  simp [bv, beBytes, beByte, List.range_succ] <;> omega

set_option maxRecDepth 100000 in
set_option maxHeartbeats 400000 in
theorem headR_1_4 (n : Int) (d : ByteArray) (w : World) (hn0 : 0 ≤ n) (h1 : 65536 ≤ n) (h2 : n < 4294967296) : Calls Tryd.prog 54 #[itemV 1 n d] w (RowPost w.heap.size w (encHead 0 n)) := by
  rw [encHead4 h1 h2]
  unfold itemV
  go_enter Tryd.func54, Tryd.ntmps54
  go_wp2
  go_ret
  refine row_end w _ _ _ _ rfl (by decide) ?_
  simp [bv, beBytes, beByte, List.range_succ] <;> omega

set_option maxRecDepth 100000 in
set_option maxHeartbeats 400000 in
theorem headR_2_s (n : Int) (d : ByteArray) (w : World) (hn0 : 0 ≤ n) (h1 : n < 24) : Calls Tryd.prog 54 #[itemV 2 n d] w (RowPost w.heap.size w (encHead 1 n)) := by
  rw [encHead0 h1]
  unfold itemV
  go_enter Tryd.func54, Tryd.ntmps54
  go_wp2
  go_ret
  refine row_end w _ _ _ _ rfl (by decide) ?_
  simp [bv, beBytes, beByte, List.range_succ] <;> omega

set_option maxRecDepth 100000 in
set_option maxHeartbeats 400000 in
theorem headR_2_1 (n : Int) (d : ByteArray) (w : World) (hn0 : 0 ≤ n) (h1 : 24 ≤ n) (h2 : n < 256) : Calls Tryd.prog 54 #[itemV 2 n d] w (RowPost w.heap.size w (encHead 1 n)) := by
  rw [encHead1 h1 h2]
  unfold itemV
  go_enter Tryd.func54, Tryd.ntmps54
  go_wp2
  go_ret
  refine row_end w _ _ _ _ rfl (by decide) ?_
  simp [bv, beBytes, beByte, List.range_succ] <;> omega

set_option maxRecDepth 100000 in
set_option maxHeartbeats 400000 in
theorem headR_2_2 (n : Int) (d : ByteArray) (w : World) (hn0 : 0 ≤ n) (h1 : 256 ≤ n) (h2 : n < 65536) : Calls Tryd.prog 54 #[itemV 2 n d] w (RowPost w.heap.size w (encHead 1 n)) := by
  rw [encHead2 h1 h2]
  unfold itemV
  go_enter Tryd.func54, Tryd.ntmps54
  go_wp2
  go_ret
  refine row_end w _ _ _ _ rfl (by decide) ?_
  simp [bv, beBytes, beByte, List.range_succ] <;> omega

set_option maxRecDepth 100000 in
set_option maxHeartbeats 400000 in
theorem headR_2_4 (n : Int) (d : ByteArray) (w : World) (hn0 : 0 ≤ n) (h1 : 65536 ≤ n) (h2 : n < 4294967296) : Calls Tryd.prog 54 #[itemV 2 n d] w (RowPost w.heap.size w (encHead 1 n)) := by
  rw [encHead4 h1 h2]
  unfold itemV
  go_enter Tryd.func54, Tryd.ntmps54
  go_wp2
  go_ret
  refine row_end w _ _ _ _ rfl (by decide) ?_
  simp [bv, beBytes, beByte, List.range_succ] <;> omega

set_option maxRecDepth 100000 in
set_option maxHeartbeats 400000 in
theorem headR_5_s (n : Int) (d : ByteArray) (w : World) (hn0 : 0 ≤ n) (h1 : n < 24) : Calls Tryd.prog 54 #[itemV 5 n d] w (RowPost w.heap.size w (encHead 4 n)) := by
  rw [encHead0 h1]
  unfold itemV
  go_enter Tryd.func54, Tryd.ntmps54
  go_wp2
  go_ret
  refine row_end w _ _ _ _ rfl (by decide) ?_
  simp [bv, beBytes, beByte, List.range_succ] <;> omega

set_option maxRecDepth 100000 in
set_option maxHeartbeats 400000 in
theorem headR_5_1 (n : Int) (d : ByteArray) (w : World) (hn0 : 0 ≤ n) (h1 : 24 ≤ n) (h2 : n < 256) : Calls Tryd.prog 54 #[itemV 5 n d] w (RowPost w.heap.size w (encHead 4 n)) := by
  rw [encHead1 h1 h2]
  unfold itemV
  go_enter Tryd.func54, Tryd.ntmps54
  go_wp2
  go_ret
  refine row_end w _ _ _ _ rfl (by decide) ?_
  simp [bv, beBytes, beByte, List.range_succ] <;> omega

set_option maxRecDepth 100000 in
set_option maxHeartbeats 400000 in
theorem headR_5_2 (n : Int) (d : ByteArray) (w : World) (hn0 : 0 ≤ n) (h1 : 256 ≤ n) (h2 : n < 65536) : Calls Tryd.prog 54 #[itemV 5 n d] w (RowPost w.heap.size w (encHead 4 n)) := by
  rw [encHead2 h1 h2]
  unfold itemV
  go_enter Tryd.func54, Tryd.ntmps54
  go_wp2
  go_ret
  refine row_end w _ _ _ _ rfl (by decide) ?_
  simp [bv, beBytes, beByte, List.range_succ] <;> omega

set_option maxRecDepth 100000 in
set_option maxHeartbeats 400000 in
theorem headR_5_4 (n : Int) (d : ByteArray) (w : World) (hn0 : 0 ≤ n) (h1 : 65536 ≤ n) (h2 : n < 4294967296) : Calls Tryd.prog 54 #[itemV 5 n d] w (RowPost w.heap.size w (encHead 4 n)) := by
  rw [encHead4 h1 h2]
  unfold itemV
  go_enter Tryd.func54, Tryd.ntmps54
  go_wp2
  go_ret
  refine row_end w _ _ _ _ rfl (by decide) ?_
  simp [bv, beBytes, beByte, List.range_succ] <;> omega

set_option maxRecDepth 100000 in
set_option maxHeartbeats 400000 in
theorem headR_6_s (n : Int) (d : ByteArray) (w : World) (hn0 : 0 ≤ n) (h1 : n < 24) : Calls Tryd.prog 54 #[itemV 6 n d] w (RowPost w.heap.size w (encHead 5 n)) := by
  rw [encHead0 h1]
  unfold itemV
  go_enter Tryd.func54, Tryd.ntmps54
  go_wp2
  go_ret
  refine row_end w _ _ _ _ rfl (by decide) ?_
  simp [bv, beBytes, beByte, List.range_succ] <;> omega

set_option maxRecDepth 100000 in
set_option maxHeartbeats 400000 in
theorem headR_6_1 (n : Int) (d : ByteArray) (w : World) (hn0 : 0 ≤ n) (h1 : 24 ≤ n) (h2 : n < 256) : Calls Tryd.prog 54 #[itemV 6 n d] w (RowPost w.heap.size w (encHead 5 n)) := by
  rw [encHead1 h1 h2]
  unfold itemV
  go_enter Tryd.func54, Tryd.ntmps54
  go_wp2
  go_ret
  refine row_end w _ _ _ _ rfl (by decide) ?_
  simp [bv, beBytes, beByte, List.range_succ] <;> omega

set_option maxRecDepth 100000 in
set_option maxHeartbeats 400000 in
theorem headR_6_2 (n : Int) (d : ByteArray) (w : World) (hn0 : 0 ≤ n) (h1 : 256 ≤ n) (h2 : n < 65536) : Calls Tryd.prog 54 #[itemV 6 n d] w (RowPost w.heap.size w (encHead 5 n)) := by
  rw [encHead2 h1 h2]
  unfold itemV
  go_enter Tryd.func54, Tryd.ntmps54
  go_wp2
  go_ret
  refine row_end w _ _ _ _ rfl (by decide) ?_
  simp [bv, beBytes, beByte, List.range_succ] <;> omega

set_option maxRecDepth 100000 in
set_option maxHeartbeats 400000 in
theorem headR_6_4 (n : Int) (d : ByteArray) (w : World) (hn0 : 0 ≤ n) (h1 : 65536 ≤ n) (h2 : n < 4294967296) : Calls Tryd.prog 54 #[itemV 6 n d] w (RowPost w.heap.size w (encHead 5 n)) := by
  rw [encHead4 h1 h2]
  unfold itemV
  go_enter Tryd.func54, Tryd.ntmps54
  go_wp2
  go_ret
  refine row_end w _ _ _ _ rfl (by decide) ?_
  simp [bv, beBytes, beByte, List.range_succ] <;> omega

set_option maxRecDepth 100000 in
set_option maxHeartbeats 400000 in
theorem headR_3_s (n : Int) (d : ByteArray) (w : World) (hd : d.size ≤ 1100) (h1 : (d.size : Int) < 24) : Calls Tryd.prog 54 #[itemV 3 n d] w (RowPost w.heap.size w (encHead 2 (d.size : Int))) := by
  rw [encHead0 h1]
  have hd1 : (d.size : Int) ≤ 1100 := by omega
  have hd0 : (0 : Int) ≤ (d.size : Int) := by omega
  unfold itemV
  go_enter Tryd.func54, Tryd.ntmps54
  go_wp2_with fail
  go_region
  all_goals generalize (d.size : Int) = N at *
  all_goals go_wp2
  all_goals go_ret
  all_goals refine row_end_d w _ _ _ _ rfl (by simp) ?_
  all_goals simp [bv, beBytes, beByte, List.range_succ] <;> omega

set_option maxRecDepth 100000 in
set_option maxHeartbeats 400000 in
theorem headR_3_1 (n : Int) (d : ByteArray) (w : World) (hd : d.size ≤ 1100) (h1 : 24 ≤ (d.size : Int)) (h2 : (d.size : Int) < 256) : Calls Tryd.prog 54 #[itemV 3 n d] w (RowPost w.heap.size w (encHead 2 (d.size : Int))) := by
  rw [encHead1 h1 h2]
  have hd1 : (d.size : Int) ≤ 1100 := by omega
  have hd0 : (0 : Int) ≤ (d.size : Int) := by omega
  unfold itemV
  go_enter Tryd.func54, Tryd.ntmps54
  go_wp2_with fail
  go_region
  all_goals generalize (d.size : Int) = N at *
  all_goals go_wp2
  all_goals go_ret
  all_goals refine row_end_d w _ _ _ _ rfl (by simp) ?_
  all_goals simp [bv, beBytes, beByte, List.range_succ] <;> omega

set_option maxRecDepth 100000 in
set_option maxHeartbeats 400000 in
theorem headR_3_2 (n : Int) (d : ByteArray) (w : World) (hd : d.size ≤ 1100) (h1 : 256 ≤ (d.size : Int)) (h2 : (d.size : Int) < 65536) : Calls Tryd.prog 54 #[itemV 3 n d] w (RowPost w.heap.size w (encHead 2 (d.size : Int))) := by
  rw [encHead2 h1 h2]
  have hd1 : (d.size : Int) ≤ 1100 := by omega
  have hd0 : (0 : Int) ≤ (d.size : Int) := by omega
  unfold itemV
  go_enter Tryd.func54, Tryd.ntmps54
  go_wp2_with fail
  go_region
  all_goals generalize (d.size : Int) = N at *
  all_goals go_wp2
  all_goals go_ret
  all_goals refine row_end_d w _ _ _ _ rfl (by simp) ?_
  all_goals simp [bv, beBytes, beByte, List.range_succ] <;> omega

set_option maxRecDepth 100000 in
set_option maxHeartbeats 400000 in
theorem headR_4_s (n : Int) (d : ByteArray) (w : World) (hd : d.size ≤ 1100) (h1 : (d.size : Int) < 24) : Calls Tryd.prog 54 #[itemV 4 n d] w (RowPost w.heap.size w (encHead 3 (d.size : Int))) := by
  rw [encHead0 h1]
  have hd1 : (d.size : Int) ≤ 1100 := by omega
  have hd0 : (0 : Int) ≤ (d.size : Int) := by omega
  unfold itemV
  go_enter Tryd.func54, Tryd.ntmps54
  go_wp2_with fail
  go_region
  all_goals generalize (d.size : Int) = N at *
  all_goals go_wp2
  all_goals go_ret
  all_goals refine row_end_d w _ _ _ _ rfl (by simp) ?_
  all_goals simp [bv, beBytes, beByte, List.range_succ] <;> omega

set_option maxRecDepth 100000 in
set_option maxHeartbeats 400000 in
theorem headR_4_1 (n : Int) (d : ByteArray) (w : World) (hd : d.size ≤ 1100) (h1 : 24 ≤ (d.size : Int)) (h2 : (d.size : Int) < 256) : Calls Tryd.prog 54 #[itemV 4 n d] w (RowPost w.heap.size w (encHead 3 (d.size : Int))) := by
  rw [encHead1 h1 h2]
  have hd1 : (d.size : Int) ≤ 1100 := by omega
  have hd0 : (0 : Int) ≤ (d.size : Int) := by omega
  unfold itemV
  go_enter Tryd.func54, Tryd.ntmps54
  go_wp2_with fail
  go_region
  all_goals generalize (d.size : Int) = N at *
  all_goals go_wp2
  all_goals go_ret
  all_goals refine row_end_d w _ _ _ _ rfl (by simp) ?_
  all_goals simp [bv, beBytes, beByte, List.range_succ] <;> omega

set_option maxRecDepth 100000 in
set_option maxHeartbeats 400000 in
theorem headR_4_2 (n : Int) (d : ByteArray) (w : World) (hd : d.size ≤ 1100) (h1 : 256 ≤ (d.size : Int)) (h2 : (d.size : Int) < 65536) : Calls Tryd.prog 54 #[itemV 4 n d] w (RowPost w.heap.size w (encHead 3 (d.size : Int))) := by
  rw [encHead2 h1 h2]
  have hd1 : (d.size : Int) ≤ 1100 := by omega
  have hd0 : (0 : Int) ≤ (d.size : Int) := by omega
  unfold itemV
  go_enter Tryd.func54, Tryd.ntmps54
  go_wp2_with fail
  go_region
  all_goals generalize (d.size : Int) = N at *
  all_goals go_wp2
  all_goals go_ret
  all_goals refine row_end_d w _ _ _ _ rfl (by simp) ?_
  all_goals simp [bv, beBytes, beByte, List.range_succ] <;> omega

set_option maxRecDepth 100000 in
set_option maxHeartbeats 400000 in
theorem headR_7 (n : Int) (d : ByteArray) (w : World) (hn0 : 0 ≤ n) (hn1 : n ≤ 1) : Calls Tryd.prog 54 #[itemV 7 n d] w (RowPost w.heap.size w [244 + n]) := by
  unfold itemV
  go_enter Tryd.func54, Tryd.ntmps54
  go_wp2
  go_ret
  refine row_end w _ _ _ _ rfl (by decide) ?_
  simp [bv] <;> omega

set_option maxRecDepth 100000 in
set_option maxHeartbeats 400000 in
theorem headR_8 (n : Int) (d : ByteArray) (w : World) : Calls Tryd.prog 54 #[itemV 8 n d] w (RowPost w.heap.size w [246]) := by
  unfold itemV
  go_enter Tryd.func54, Tryd.ntmps54
  go_wp2
  go_ret
  refine row_end w _ _ _ _ rfl (by decide) ?_
  simp [bv] <;> omega

end Go.Proofs.YtepinmeidjlmmaaDoor
