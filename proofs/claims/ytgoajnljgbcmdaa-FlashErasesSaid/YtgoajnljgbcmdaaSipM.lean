/- Bytes as a string; the check 'awake'. -/
import Derived.Test.YtgoajnljgbcmdaaSipL
namespace Go.Proofs.Ytgoajnljgbcmdaa
open Go.RowKit
set_option maxRecDepth 100000

theorem conv_bytes {w : World} {A : Option Addr} {n cap : Nat} {zs : List Int} (h : Bytes w A n zs) :
    (convert 22 9 (.slice A n cap)).run Try.prog w = .ok (.string (strOfNums zs)) w := by
  rcases A with _ | a
  · have hn : n = 0 := by
      rcases Nat.eq_zero_or_pos n with h0 | h0
      · exact h0
      · obtain ⟨_, e, _⟩ := h.at_ 0 h0
        cases e
    have hz : zs = [] := List.eq_nil_of_length_eq_zero (by rw [h.len, hn])
    subst hz
    subst hn
    exact run_convert_bytes_nil w 22 5 Try.underlying22 Try.underlying5 0 cap 9 Try.underlying9
  · have hl : (loadCells a n).run Try.prog w = .ok (zs.map (Value.int .u8)).toArray w := by
      have := run_loadCells_list (P := Try.prog) w a (bv zs) h.cells
      rw [bv_len, h.len] at this
      exact this
    rw [run_convert_bytes_string w 22 9 5 _ n cap Try.underlying22 Try.underlying5 Try.underlying9, run_bytesToString w _ n cap zs hl, foldl_push_bytes]
    simp [strOfNums, ByteArray.empty, ByteArray.emptyWithCapacity]
    rfl

def upto15 (k : Nat) : List Int := (List.range k).map fun (i : Nat) => (i : Int)
theorem upto15_succ (k : Nat) : upto15 (k + 1) = upto15 k ++ [(k : Int)] := by simp [upto15, List.range_succ]

end Go.Proofs.Ytgoajnljgbcmdaa
