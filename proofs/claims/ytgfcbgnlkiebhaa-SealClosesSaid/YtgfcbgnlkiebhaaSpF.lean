/- Open of the program. -/
import Derived.Test.YtgfcbgnlkiebhaaSpE
import Derived.ChangeKeysEq
namespace Go.Proofs.Ytgfcbgnlkiebhaa
open Go.RowKit
set_option maxRecDepth 100000
theorem info8 : (Try.prog.info? 5).isSome = true := by kernel_rfl
theorem neq_tag (z0 z1 z2 z3 z4 z5 z6 z7 y0 y1 y2 y3 y4 y5 y6 y7 : Int) (W : World) : (binOp .neq 43 (.agg #[.int .u8 z0, .int .u8 z1, .int .u8 z2, .int .u8 z3, .int .u8 z4, .int .u8 z5, .int .u8 z6, .int .u8 z7]) (.agg #[.int .u8 y0, .int .u8 y1, .int .u8 y2, .int .u8 y3, .int .u8 y4, .int .u8 y5, .int .u8 y6, .int .u8 y7])).run Try.prog W = .ok (.bool (!decide (z0 = y0 ∧ z1 = y1 ∧ z2 = y2 ∧ z3 = y3 ∧ z4 = y4 ∧ z5 = y5 ∧ z6 = y6 ∧ z7 = y7))) W := by
  obtain ⟨i8, hi8⟩ := Option.isSome_iff_exists.1 info8
  have hcs : Try.prog.cellsOf 5 = 1 := by kernel_rfl
  rw [run_neq_struct, run_equalIn_array W 9999 _ _ Try.underlying43 hi8, hcs]
  simp [List.range, List.range.loop, Op.eqItems, go_sem]
  (repeat' split) <;> simp [*]
end Go.Proofs.Ytgfcbgnlkiebhaa
