/- The reference's Sum. -/
import Derived.Test.YtgoajnljgbcmdaaSipF
namespace Go.Proofs.Ytgoajnljgbcmdaa
open Go.RowKit
set_option maxRecDepth 100000
attribute [local go_sem] val_xor val_or val_add

theorem horner_step (x : BitVec 64) (z : Int) (h0 : 0 ≤ z) (h1 : z ≤ 255) : bits .or .u64 (IntKind.u64.wrap (val x * 256)) z = val (x <<< 8 ||| BitVec.ofInt 64 z) := by
  have e : z = val (BitVec.ofInt 64 z) := val_of h0 (by omega)
  generalize BitVec.ofInt 64 z = y at *
  rw [e, ← val_or, ← val_shl]
  rfl
theorem sipByte_in {zs : List Int} {i k : Nat} (h : i + k < zs.length) : sipByte zs i k = BitVec.ofInt 64 (zs.getD (i + k) 0) := by unfold sipByte; rw [if_pos h]
theorem sipByte_top {zs : List Int} {i : Nat} (h : ¬ i + 7 < zs.length) : sipByte zs i 7 = BitVec.ofInt 64 ((zs.length : Int) % 256) := by
  unfold sipByte
  rw [if_neg h, if_pos rfl]
  rw [show ((zs.length : Int) % 256) = ((zs.length % 256 : Nat) : Int) by omega, BitVec.ofInt_natCast]
theorem sipByte_out {zs : List Int} {i k : Nat} (h : ¬ i + k < zs.length) (hk : k ≠ 7) : sipByte zs i k = BitVec.ofInt 64 0 := by
  unfold sipByte
  rw [if_neg h, if_neg hk]
  rfl

end Go.Proofs.Ytgoajnljgbcmdaa
