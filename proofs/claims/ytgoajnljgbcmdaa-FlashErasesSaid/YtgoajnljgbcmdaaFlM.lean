/- The laws of layer 7 at their arguments' own form. -/
import Derived.Test.YtgoajnljgbcmdaaFlI
import Derived.Test.YtgoajnljgbcmdaaFlJ
import Derived.Test.YtgoajnljgbcmdaaFlK
import Derived.Test.YtgoajnljgbcmdaaFlL
namespace Go.Proofs.Ytgoajnljgbcmdaa
open Go.RowKit

theorem programs_law_at (w : World) (a0 : Int) (A1 : Option Addr) (n1 c1 : Nat) (z1 : List Int) (b1 : Nums w A1 n1 z1) (a2 a3 : Int) (A4 : Option Addr) (n4 c4 : Nat) (z4 : List Int) (b4 : Bytes w A4 n4 z4) (l4 : n4 ≤ c4) (m4 : c4 ≤ 9223372036854775807) (a5 a6 : Int) (h5 : a5 ≤ 9223372036854775807) (h3 : a3 ≤ 9223372036854775807) :
    Calls Try.prog 5 #[.int .i64 a0, .slice A1 n1 c1, .int .i64 a2, .int .i64 a3, .slice A4 n4 c4, .int .i64 a5, .int .i64 a6] w fun e w' => e = .returned (.bool true) ∧ Below w.heap.size w w' := by
  exact programs_law a0 a2 a3 a5 a6 A1 A4 n1 c1 n4 c4 z1 z4 w b1 b4 l4 m4 h5 h3
theorem erases_law_at (w : World) (a0 : Int) (A1 : Option Addr) (n1 c1 : Nat) (z1 : List Int) (b1 : Nums w A1 n1 z1) (a2 a3 a4 : Int) (h3 : a3 ≤ 9223372036854775807) :
    Calls Try.prog 6 #[.int .i64 a0, .slice A1 n1 c1, .int .i64 a2, .int .i64 a3, .int .i64 a4] w fun e w' => e = .returned (.bool true) ∧ Below w.heap.size w w' := by
  exact erases_law a0 a2 a3 a4 A1 n1 c1 z1 w b1 h3
theorem reads_law_at (w : World) (a0 : Int) (A1 : Option Addr) (n1 c1 : Nat) (z1 : List Int) (b1 : Nums w A1 n1 z1) (a2 a3 a4 a5 : Int) (h3 : a3 ≤ 9223372036854775807) :
    Calls Try.prog 4 #[.int .i64 a0, .slice A1 n1 c1, .int .i64 a2, .int .i64 a3, .int .i64 a4, .int .i64 a5] w fun e w' => e = .returned (.bool true) ∧ Below w.heap.size w w' := by
  exact reads_law a0 a2 a3 a4 a5 A1 n1 c1 z1 w b1 h3
theorem new_law_at (w : World) (a0 a1 a2 P3 : Int) (A3 : Option Addr) (n3 c3 : Nat) :
    Calls Try.prog 3 #[.int .i64 a0, .int .i64 a1, .int .i64 a2, .agg #[.int .i64 P3, .slice A3 n3 c3]] w fun e w' => e = .returned (.bool true) ∧ Below w.heap.size w w' := by
  exact new_law a0 a1 a2 P3 A3 n3 c3 w
theorem parts_law_at (w : World) (a0 : Int) (A1 : Option Addr) (n1 c1 : Nat) (z1 : List Int) (b1 : Nums w A1 n1 z1) (a2 : Int) (u2 : 0 ≤ a2 ∧ a2 ≤ 255) (A3 : Option Addr) (n3 c3 : Nat) (z3 : List Int) (b3 : Bytes w A3 n3 z3) (l3 : n3 ≤ c3) (m3 : c3 ≤ 9223372036854775807) (o3 : A3 = none → c3 = 0) (a4 : Int) (u4 : 0 ≤ a4 ∧ a4 ≤ 255) :
    Calls Try.prog 7 #[.int .i64 a0, .slice A1 n1 c1, .int .u8 a2, .slice A3 n3 c3, .int .u8 a4] w fun e w' => e = .returned (.bool true) ∧ Below w.heap.size w w' := by
  obtain ⟨x, rfl⟩ := Int.eq_ofNat_of_zero_le u2.1
  obtain ⟨y, rfl⟩ := Int.eq_ofNat_of_zero_le u4.1
  exact parts_law a0 A1 A3 n1 c1 n3 c3 x y z1 z3 w b1 b3 l3 m3 o3 (by omega) (by omega)
theorem bits_law_at (w : World) (a0 : Int) (A1 : Option Addr) (n1 c1 : Nat) (z1 : List Int) (b1 : Nums w A1 n1 z1) (a2 : Int) (u2 : 0 ≤ a2 ∧ a2 ≤ 255) (A3 : Option Addr) (n3 c3 : Nat) (z3 : List Int) (b3 : Bytes w A3 n3 z3) (l3 : n3 ≤ c3) (m3 : c3 ≤ 9223372036854775807) (a4 : Int) (h4 : a4 ≤ 9223372036854775807) :
    Calls Try.prog 8 #[.int .i64 a0, .slice A1 n1 c1, .int .u8 a2, .slice A3 n3 c3, .int .i64 a4] w fun e w' => e = .returned (.bool true) ∧ Below w.heap.size w w' := by
  obtain ⟨x, rfl⟩ := Int.eq_ofNat_of_zero_le u2.1
  exact bits_law a0 a4 A1 A3 n1 c1 n3 c3 x z1 z3 w b1 b3 l3 m3 (by omega) h4
end Go.Proofs.Ytgoajnljgbcmdaa
