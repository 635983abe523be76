/- The laws of layer 6 at their arguments' own form. -/
import Derived.Test.YtgfcbgnlkiebhaaSeI
import Derived.Test.YtgfcbgnlkiebhaaSeJ
import Derived.Test.YtgfcbgnlkiebhaaSeK
import Derived.Test.YtgfcbgnlkiebhaaSeL
import Derived.Test.YtgfcbgnlkiebhaaSeM
namespace Go.Proofs.Ytgfcbgnlkiebhaa
open Go.RowKit

theorem streams_law_at (w : World) (a0 : Int) (u0 : 0 ≤ a0 ∧ a0 ≤ 18446744073709551615) (a1 : Int) (u1 : 0 ≤ a1 ∧ a1 ≤ 18446744073709551615) (a2 a3 : Int) (u3 : 0 ≤ a3 ∧ a3 ≤ 255) :
    Calls Try.prog 3 #[.int .u64 a0, .int .u64 a1, .int .i64 a2, .int .u8 a3] w fun e w' => e = .returned (.bool true) ∧ Below w.heap.size w w' := by
  rw [val_of u0.1 u0.2, val_of u1.1 u1.2]
  obtain ⟨M, rfl⟩ := Int.eq_ofNat_of_zero_le u3.1
  exact streams_law _ _ a2 M w (by omega)
theorem closes_law_at (w : World) (a0 : Int) (u0 : 0 ≤ a0 ∧ a0 ≤ 18446744073709551615) (a1 : Int) (u1 : 0 ≤ a1 ∧ a1 ≤ 18446744073709551615) (A2 : Option Addr) (n2 c2 : Nat) (z2 : List Int) (b2 : Bytes w A2 n2 z2) (l2 : n2 ≤ c2) (m2 : c2 ≤ 9223372036854775807) (A3 : Option Addr) (n3 c3 : Nat) (z3 : List Int) (b3 : Bytes w A3 n3 z3) (l3 : n3 ≤ c3) (m3 : c3 ≤ 9223372036854775807) :
    Calls Try.prog 4 #[.int .u64 a0, .int .u64 a1, .slice A2 n2 c2, .slice A3 n3 c3] w fun e w' => e = .returned (.bool true) ∧ Below w.heap.size w w' := by
  rw [val_of u0.1 u0.2, val_of u1.1 u1.2]
  exact closes_law _ _ A2 A3 n2 c2 n3 c3 z2 z3 w b2 b3 l2 m2 l3 m3
theorem back6_law_at (w : World) (a0 : Int) (u0 : 0 ≤ a0 ∧ a0 ≤ 18446744073709551615) (a1 : Int) (u1 : 0 ≤ a1 ∧ a1 ≤ 18446744073709551615) (A2 : Option Addr) (n2 c2 : Nat) (z2 : List Int) (b2 : Bytes w A2 n2 z2) (l2 : n2 ≤ c2) (m2 : c2 ≤ 9223372036854775807) (A3 : Option Addr) (n3 c3 : Nat) (z3 : List Int) (b3 : Bytes w A3 n3 z3) (l3 : n3 ≤ c3) (m3 : c3 ≤ 9223372036854775807) :
    Calls Try.prog 6 #[.int .u64 a0, .int .u64 a1, .slice A2 n2 c2, .slice A3 n3 c3] w fun e w' => e = .returned (.bool true) ∧ Below w.heap.size w w' := by
  rw [val_of u0.1 u0.2, val_of u1.1 u1.2]
  exact back_law _ _ A2 A3 n2 c2 n3 c3 z2 z3 w b2 b3 l2 m2 l3 m3
theorem only_law_at (w : World) (a0 : Int) (u0 : 0 ≤ a0 ∧ a0 ≤ 18446744073709551615) (A1 : Option Addr) (n1 c1 : Nat) (z1 : List Int) (b1 : Bytes w A1 n1 z1) (l1 : n1 ≤ c1) (m1 : c1 ≤ 9223372036854775807) (A2 : Option Addr) (n2 c2 : Nat) (z2 : List Int) (b2 : Bytes w A2 n2 z2) (l2 : n2 ≤ c2) (m2 : c2 ≤ 9223372036854775807) (a3 : Int) (a4 : Int) (u4 : 0 ≤ a4 ∧ a4 ≤ 18446744073709551615) :
    Calls Try.prog 7 #[.int .u64 a0, .slice A1 n1 c1, .slice A2 n2 c2, .int .i64 a3, .int .u64 a4] w fun e w' => e = .returned (.bool true) ∧ Below w.heap.size w w' := by
  rw [val_of u0.1 u0.2, val_of u4.1 u4.2]
  exact only_law _ _ a3 A1 A2 n1 c1 n2 c2 z1 z2 w b1 b2 l1 m1 l2 m2
theorem opens_law_at (w : World) (a0 : Int) (u0 : 0 ≤ a0 ∧ a0 ≤ 18446744073709551615) (A1 : Option Addr) (n1 c1 : Nat) (z1 : List Int) (b1 : Bytes w A1 n1 z1) (l1 : n1 ≤ c1) (m1 : c1 ≤ 9223372036854775807) (A2 : Option Addr) (n2 c2 : Nat) (z2 : List Int) (b2 : Bytes w A2 n2 z2) (l2 : n2 ≤ c2) (m2 : c2 ≤ 9223372036854775807) (a3 : Int) (u3 : 0 ≤ a3 ∧ a3 ≤ 18446744073709551615) (A4 : Option Addr) (n4 c4 : Nat) (z4 : List Int) (b4 : Bytes w A4 n4 z4) (a5 a6 : Int) (u6 : 0 ≤ a6 ∧ a6 ≤ 255) :
    Calls Try.prog 5 #[.int .u64 a0, .slice A1 n1 c1, .slice A2 n2 c2, .int .u64 a3, .slice A4 n4 c4, .int .i64 a5, .int .u8 a6] w fun e w' => e = .returned (.bool true) ∧ Below w.heap.size w w' := by
  rw [val_of u0.1 u0.2, val_of u3.1 u3.2]
  exact opens_law _ _ a5 a6 A1 A2 A4 n1 c1 n2 c2 n4 c4 z1 z2 z4 w u6 b1 b2 b4 l1 m1 l2 m2
theorem limits_law_at (w : World) (a0 : Int) (u0 : 0 ≤ a0 ∧ a0 ≤ 255) :
    Calls Try.prog 8 #[.int .u8 a0] w fun e w' => e = .returned (.bool true) ∧ Below w.heap.size w w' := by
  obtain ⟨q, rfl⟩ := Int.eq_ofNat_of_zero_le u0.1
  exact limits_law q w
end Go.Proofs.Ytgfcbgnlkiebhaa
