import Derived.Test.YtepinmeidjlmmaaDoorB7
namespace Go.Proofs.YtepinmeidjlmmaaDoor
open Go.RowKit

theorem heap_alloc_if (w : World) (o : Obj) (n : Nat) : (w.alloc o).heap[n]? = if n = w.heap.size then some o else w.heap[n]? := by
  show (w.heap.push o)[n]? = _
  rw [Array.getElem?_push]
theorem heap_drewN (w : World) (m : Nat) : (w.drewN m).heap = w.heap := rfl
theorem heap_drew (w : World) : w.drew.heap = w.heap := rfl

/-- what []byte reads as: a string -/
def ConvAt (w : World) (B : Nat) (v : Value) (sb : ByteArray) : Prop := ∀ W : World, Below B w W → (convert 25 9 v).run Tryd.prog W = .ok (.string sb) W

set_option maxRecDepth 100000 in
set_option maxHeartbeats 400000 in
theorem bytes_any (v : Value) (sb : ByteArray) (w : World) (h : (convert 25 9 v).run Tryd.prog w = .ok (.string sb) w) : Calls Tryd.prog 35 #[v] w (OneNew w 3 0 sb) := by
  go_enter Tryd.func35, Tryd.ntmps35
  go_wp2
  go_ret
  exact ⟨rfl, rfl⟩

def TwoNew (w : World) (k n : Int) (d : ByteArray) (e : Ending) (w' : World) : Prop := e = .returned (.slice (some ⟨w.heap.size + 1, 0, none⟩) 1 1) ∧ (w.alloc (.cells (itemCs k n d) 58)).alloc (.cells (itemCs k n d) 58) = w'
set_option maxRecDepth 100000 in
set_option maxHeartbeats 400000 in
theorem bool_any (v : Bool) (w : World) : Calls Tryd.prog 29 #[.bool v] w (TwoNew w 7 (if v = true then 1 else 0) ⟨#[]⟩) := by
  cases v
  · go_enter Tryd.func29, Tryd.ntmps29
    go_wp2
    go_ret
    exact ⟨rfl, rfl⟩
  · go_enter Tryd.func29, Tryd.ntmps29
    go_wp2
    go_ret
    exact ⟨rfl, rfl⟩

theorem below_after {w W w9 : World} (h1 : Below w.heap.size w W) (h2 : Below W.heap.size W w9) : Below w.heap.size w w9 := h1.trans (h2.mono h1.size)
theorem heap_alloc_size (w : World) (o : Obj) : (w.alloc o).heap.size = w.heap.size + 1 := by simp

theorem CS.of {w W : World} {v : Value} {sb : ByteArray} (h : ConvAt w w.heap.size v sb) (hb : Below w.heap.size w W) : Below w.heap.size w W ∧ (convert 25 9 v).run Tryd.prog W = .ok (.string sb) W := ⟨hb, h W hb⟩
theorem bool_true (w : World) : Calls Tryd.prog 29 #[.bool true] w (TwoNew w 7 1 ⟨#[]⟩) := bool_any true w
theorem bool_false (w : World) : Calls Tryd.prog 29 #[.bool false] w (TwoNew w 7 0 ⟨#[]⟩) := bool_any false w

end Go.Proofs.YtepinmeidjlmmaaDoor
