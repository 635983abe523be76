import Derived.Test.YtepinmeidjlmmaaDoorF8
namespace Go.Proofs.YtepinmeidjlmmaaDoor
open Go.RowKit

def deepL (j : Nat) : List It := List.replicate j ⟨5, 1, ⟨#[]⟩⟩
def wideL (k j : Nat) : List It := ⟨5, k, ⟨#[]⟩⟩ :: List.replicate j ⟨8, 0, ⟨#[]⟩⟩
theorem deepL_succ (j : Nat) : deepL (j + 1) = deepL j ++ [⟨5, 1, ⟨#[]⟩⟩] := by rw [deepL, List.replicate_succ']; rfl
theorem wideL_succ (k j : Nat) : wideL k (j + 1) = wideL k j ++ [⟨8, 0, ⟨#[]⟩⟩] := by rw [wideL, List.replicate_succ']; rfl

theorem lit_items (w : World) (k n : Int) (hn : 0 ≤ n) : ItemsAt (w.alloc (.cells #[.int .i64 k, .int .u64 n, .string ⟨#[]⟩] 58)) (w.heap.size + 1) (.slice (some ⟨w.heap.size, 0, none⟩) 1 1) [⟨k, n, ⟨#[]⟩⟩] :=
  itemsAt_one (Nat.lt_succ_self _) (heap_new w _) hn (Nat.zero_le _)

theorem below_lit {w wr w2 : World} {o : Obj} (h1 : Below w.heap.size w wr) (h2 : Below w.heap.size (wr.alloc o) w2) : Below w.heap.size w w2 := (h1.alloc h1.size _).trans h2

theorem deep_all : ((List.range 12).all fun J => decide (J ≤ 8) == (validE (deepL J ++ [⟨8, 0, ⟨#[]⟩⟩]) == 0)) = true := by decide +kernel
theorem wide_all : ((List.range 20).all fun K => decide (500 + K < 512) == (validE (wideL (500 + K) (500 + K)) == 0)) = true := by decide +kernel
theorem deep_is {J : Nat} (h : J < 12) : (J ≤ 8) ↔ validE (deepL J ++ [⟨8, 0, ⟨#[]⟩⟩]) = 0 := by
  have e : decide (J ≤ 8) = (validE (deepL J ++ [⟨8, 0, ⟨#[]⟩⟩]) == 0) := by simpa using List.all_eq_true.1 deep_all J (List.mem_range.2 h)
  rw [← decide_eq_true_iff (p := J ≤ 8), e, beq_iff_eq]
theorem wide_is {K : Nat} (h0 : 500 ≤ K) (h : K < 520) : (K < 512) ↔ validE (wideL K K) = 0 := by
  have := List.all_eq_true.1 wide_all (K - 500) (List.mem_range.2 (by omega))
  rw [show 500 + (K - 500) = K from by omega] at this
  have e : decide (K < 512) = (validE (wideL K K) == 0) := by simpa using this
  rw [← decide_eq_true_iff (p := K < 512), e, beq_iff_eq]

end Go.Proofs.YtepinmeidjlmmaaDoor
