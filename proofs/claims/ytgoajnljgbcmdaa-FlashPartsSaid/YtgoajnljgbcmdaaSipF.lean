/- The reference's round, on an array by value. -/
import Derived.Test.YtgoajnljgbcmdaaSipE
namespace Go.Proofs.Ytgoajnljgbcmdaa
open Go.RowKit
set_option maxRecDepth 100000
attribute [local go_sem] val_xor val_or val_add

/-- the four words of s as values -/
def cs4 (s : S4) : Array Value := #[.int .u64 (val s.a), .int .u64 (val s.b), .int .u64 (val s.c), .int .u64 (val s.d)]
theorem val_zero : val (0#64) = 0 := rfl
end Go.Proofs.Ytgoajnljgbcmdaa
