/- The state of SipHash in memory; one rotation. -/
import Derived.Test.YtgoajnljgbcmdaaSipA
import Derived.Test.YtgoajnljgbcmdaaChecked
namespace Go.Proofs.Ytgoajnljgbcmdaa
open Go.RowKit
set_option maxRecDepth 100000

/-- a word as a value -/
def U (x : BitVec 64) : Value := .int .u64 (val x)

def rotOk (k : Int) : Prop := k = 13 ∨ k = 16 ∨ k = 17 ∨ k = 21 ∨ k = 32
attribute [local go_sem] val_xor val_or val_add
theorem and13 : bits .and .u64 13 63 = 13 := by decide
theorem and16 : bits .and .u64 16 63 = 16 := by decide
theorem and17 : bits .and .u64 17 63 = 17 := by decide
theorem and21 : bits .and .u64 21 63 = 21 := by decide
theorem and32 : bits .and .u64 32 63 = 32 := by decide
attribute [local go_sem] and13 and16 and17 and21 and32

theorem rot_eq (x : BitVec 64) (k : Int) (p q : Int) (hp : p = 2 ^ k.toNat) (hq : q = 2 ^ (64 - k.toNat)) :
    bits .or .u64 (IntKind.u64.wrap (val x * p)) (val x / q) = val (rotI x k) := by
  rw [hp, hq, val_shl, val_shr, val_or]; rfl
theorem ret_u64 {a b : Int} (h : a = b) : Ending.returned (.int .u64 a) = .returned (.int .u64 b) := by rw [h]

end Go.Proofs.Ytgoajnljgbcmdaa
