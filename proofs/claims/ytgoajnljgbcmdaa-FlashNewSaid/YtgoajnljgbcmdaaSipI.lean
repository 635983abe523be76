/- The reference's Words; Hash and Mac of both. -/
import Derived.Test.YtgoajnljgbcmdaaSipH
namespace Go.Proofs.Ytgoajnljgbcmdaa
open Go.RowKit
set_option maxRecDepth 100000

theorem val_wrap (d : Int) : IntKind.u64.wrap d = val (BitVec.ofInt 64 d) := by
  rw [IntKind.wrap_u64]; unfold val
  rw [BitVec.toNat_ofInt]
  omega
def sipHash (d : Int) (zs : List Int) : BitVec 64 := sipSum (BitVec.ofInt 64 d) 0#64 zs
def sipMac (x : BitVec 64) (d : Int) (zs : List Int) : BitVec 64 := sipSum x (1#64 + BitVec.ofInt 64 d) zs

theorem one_wrap (d : Int) : IntKind.u64.wrap (1 + IntKind.u64.wrap d) = val (1#64 + BitVec.ofInt 64 d) := by
  rw [val_wrap d, show (1 : Int) = val 1#64 from rfl, val_add]
end Go.Proofs.Ytgoajnljgbcmdaa
