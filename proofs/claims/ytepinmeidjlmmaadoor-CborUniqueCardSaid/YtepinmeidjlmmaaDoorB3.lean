import Derived.Test.YtepinmeidjlmmaaDoorB2
import Derived.Lib.AppendZerosOnto
import Derived.Lib.SliceRun
namespace Go.Proofs.YtepinmeidjlmmaaDoor
open Go.RowKit

theorem itemsAt_one {w : World} {B b : Nat} {k n : Int} {d : ByteArray} (hb : b < B) (h : w.heap[b]? = some (.cells (itemCs k n d) 58 (0, 0))) (h0 : 0 ≤ n) (hd : d.size ≤ maxLen) : ItemsAt w B (.slice (some ⟨b, 0, none⟩) 1 1) [⟨k, n, d⟩] :=
  ⟨.inr ⟨b, 0, 1, rfl, hb, fun i hi => by
    obtain rfl : i = 0 := by simp at hi; omega
    exact ⟨cell_of_block h rfl, cell_of_block h rfl, cell_of_block h rfl⟩⟩, by intro x hx; simp at hx; subst hx; exact ⟨h0, hd⟩, by simp⟩

/-- a constructor's result: one new block -/
def OneNew (w : World) (k n : Int) (d : ByteArray) (e : Ending) (w' : World) : Prop := e = .returned (.slice (some ⟨w.heap.size, 0, none⟩) 1 1) ∧ w.alloc (.cells (itemCs k n d) 58) = w'

set_option maxHeartbeats 400000 in
theorem uint_any (n : Int) (w : World) : Calls Tryd.prog 34 #[.int .u64 n] w (OneNew w 1 n ⟨#[]⟩) := by
  go_enter Tryd.func34, Tryd.ntmps34
  go_wp2
  go_ret
  exact ⟨rfl, rfl⟩
set_option maxHeartbeats 400000 in
theorem text_any (d : ByteArray) (w : World) : Calls Tryd.prog 36 #[.string d] w (OneNew w 4 0 d) := by
  go_enter Tryd.func36, Tryd.ntmps36
  go_wp2
  go_ret
  exact ⟨rfl, rfl⟩

theorem info58 : (Tryd.prog.info? 58).map (fun i => (i.zero, i.size, i.bytes)) = some (some (.agg #[.int .i64 0, .int .u64 0, .string ⟨#[]⟩]), 3, 32) := by kernel_rfl

set_option maxRecDepth 100000 in
set_option maxHeartbeats 1000000 in
theorem grow_nil (n : Nat) (w : World) (hn : 1 ≤ n) (hn2 : n ≤ 1000000) :
    Calls Tryd.prog 86 #[.slice none 0 0, .int .i64 n] w fun e w' => ∃ cap, e = .returned (.slice (some ⟨w.heap.size, 0, none⟩) 0 cap) ∧ w'.ownsRow w.heap.size 58 3 (.slice (some ⟨w.heap.size, 0, none⟩) 0 cap) 0 [] ∧ Below w.heap.size w w' := by
  obtain ⟨i0, hi, hz0, hz1, hz2⟩ := info_parts info58
  have hcap := grownCap_ge w n 0 58
  have hmax := grownCap_le_maxLen w n 0 58 (by unfold maxLen; omega)
  have hold : (Builtin.firstCells i0.size 0 (.slice none 0 0)).run Tryd.prog w.drew = .ok (#[] : Array Value) w.drew := Go.run_firstCells_none w.drew i0.size 0 0 0
  have hrz : ∀ ty, (Builtin.append_ #[22, 3] ty #[.slice none 0 0, .int .i64 n]).run Tryd.prog w = .ok (.slice (some ⟨w.heap.size, 0, none⟩) n (grownCap w n 0 58)) (w.drew.alloc (.cells (#[] ++ Builtin.zeroCells (Value.cells (.agg #[.int .i64 0, .int .u64 0, .string ⟨#[]⟩])) n ++ Builtin.zeroCells (Value.cells (.agg #[.int .i64 0, .int .u64 0, .string ⟨#[]⟩])) (grownCap w n 0 58 - n)) 58)) := fun ty => by
    have h := Lib.run_append_grow_zeros w 22 3 ty 58 i0 _ .i64 .i64 Tryd.underlying22 Tryd.underlying3 hi hz0 none 0 0 [] hold n (by omega) (by omega) (by omega) (by omega) (by rw [hz2]; omega) (by rw [Nat.zero_add, hz2]; exact growslice_fits (by omega) (by omega))
    simpa using h
  generalize hC : (#[] ++ Builtin.zeroCells (Value.cells (.agg #[.int .i64 0, .int .u64 0, .string ⟨#[]⟩])) n ++ Builtin.zeroCells (Value.cells (.agg #[.int .i64 0, .int .u64 0, .string ⟨#[]⟩])) (grownCap w n 0 58 - n) : Array Value) = C at hrz
  have hCs : C.size = grownCap w n 0 58 * 3 := by
    rw [← hC]; simp [size_zeroCells, Value.cells]; omega
  generalize grownCap w n 0 58 = G at hrz hcap hmax hCs
  have HR := Lib.hid hrz
  have HCS := Lib.hid hCs
  have hn63 : (n : Int) ≤ 1000000 := by omega
  unfold maxLen at hmax
  clear hrz hC hCs hold hi hz0 hz1 hz2
  go_enter Tryd.func86, Tryd.ntmps86
  go_wp2_with (at_builtin; refine Lib.wpList_append_run _ rfl _ _ _ _ rfl _ _ rfl rfl _ _ (HR.out _) ?_)
  go_ret
  exact ⟨G, rfl, World.ownsRow_made (base := w.heap.size) w.drew C G (by simp) (by unfold maxLen; omega) HCS.out, (Below.refl _ w).drew.alloc (by simp) _⟩

set_option maxRecDepth 100000 in
set_option maxHeartbeats 400000 in
theorem len1 (w : World) : Calls Tryd.prog 84 #[.int .u64 1] w fun e w' => (∃ l, e = .returned (.int .i64 l)) ∧ w = w' := by
  go_enter Tryd.func84, Tryd.ntmps84
  go_wp2
  go_ret
  exact ⟨⟨_, rfl⟩, rfl⟩

set_option maxRecDepth 100000 in
set_option maxHeartbeats 400000 in
theorem insertion1 (g cap : Nat) (f : Value) (w : World) : Calls Tryd.prog 92 #[.slice (some ⟨g, 0, none⟩) 1 cap, .int .i64 0, .int .i64 1, f] w fun e w' => e = .returned (.tuple #[]) ∧ w = w' := by
  go_enter Tryd.func92, Tryd.ntmps92
  go_wp2_with fail
  refine wp_loop_rounds 1 ?_
  rw [rounds_succ]
  go_wp2_with fail
  go_end0
  exact ⟨rfl, rfl⟩

set_option maxRecDepth 100000 in
set_option maxHeartbeats 400000 in
theorem pdq1 (g cap : Nat) (f : Value) (l : Int) (w : World) : Calls Tryd.prog 83 #[.slice (some ⟨g, 0, none⟩) 1 cap, .int .i64 0, .int .i64 1, .int .i64 l, f] w fun e w' => e = .returned (.tuple #[]) ∧ w = w' := by
  go_enter Tryd.func83, Tryd.ntmps83
  go_wp2_with fail
  refine wp_loop_rounds 1 ?_
  rw [rounds_succ]
  go_wp2_with (go_at_call 92; refine (insertion1 _ _ _ _).mono ?_; rintro e w' ⟨rfl, rfl⟩)
  refine bodyPost_ret (results_none rfl _ _ _) rfl ?_
  exact ⟨rfl, rfl⟩

set_option maxRecDepth 100000 in
set_option maxHeartbeats 400000 in
theorem sort1 (g cap : Nat) (f : Value) (w : World) : Calls Tryd.prog 71 #[.slice (some ⟨g, 0, none⟩) 1 cap, f] w fun e w' => e = .returned (.tuple #[]) ∧ w = w' := by
  go_enter Tryd.func71, Tryd.ntmps71
  go_wp2_with (first | (go_at_call 84; refine (len1 _).mono ?_; rintro e w' ⟨⟨l, rfl⟩, rfl⟩) | (go_at_call 83; refine (pdq1 _ _ _ _ _).mono ?_; rintro e w' ⟨rfl, rfl⟩))
  go_end0
  exact ⟨rfl, rfl⟩
end Go.Proofs.YtepinmeidjlmmaaDoor
