/- From what the rows list of the program's tables to the predicate that the contracts ask. -/
import Derived.Test.YtepinmeidjlmmaaDoorRows
import Derived.Test.YtepinmeidjlmmaaDoorA6
import Derived.Lib.LaidU8T
import Derived.MakeChecks
import Derived.Lay
import Derived.OpenShut
import Derived.ProofKit
namespace Go.Proofs.YtepinmeidjlmmaaDoor
open Go.ChangeShapes Go.WideShapes Go.ChangeAt Go.RowKit Go.Lib

def laid4 : List (String × DataW Unit) := [("math/bits.deBruijn32tab", Rows.laid_math_bits_deBruijn32tab), ("math/bits.deBruijn64tab", Rows.laid_math_bits_deBruijn64tab), ("unicode/utf8.acceptRanges", Rows.laid_unicode_utf8_acceptRanges), ("unicode/utf8.first", Rows.laid_unicode_utf8_first)]

theorem tryd_own : ownKnob Tryd.prog.godebug = none := by kernel_rfl
theorem tryd_laidOut : laidOutB Tryd.prog = true := by kernel_rfl
theorem tryd_u8types : U8Types Tryd.prog Tryd.lays196_ren := U8Types.of196 Tryd.lays196
theorem tryd_u8extra : U8Extra Tryd.prog Tryd.lays196_ren where
  n3 := by kernel_rfl
  n4 := by kernel_rfl
  y3 := by kernel_rfl
  y4 := by kernel_rfl
  c5 := by kernel_rfl
  c119 := by kernel_rfl
  c138 := by kernel_rfl
theorem first_is : Rows.laid_unicode_utf8_first = firstData := by kernel_rfl
theorem accept_is : (Rows.laid_unicode_utf8_acceptRanges : DataW Unit) = acceptData := by kernel_rfl
def tab64 : List Int := [0, 1, 56, 2, 57, 49, 28, 3, 61, 58, 42, 50, 38, 29, 17, 4, 62, 47, 59, 36, 45, 43, 51, 22, 53, 39, 33, 30, 24, 18, 12, 5, 63, 55, 48, 27, 60, 41, 37, 16, 46, 35, 44, 21, 52, 32, 23, 11, 54, 26, 40, 15, 34, 20, 31, 10, 25, 14, 19, 9, 13, 8, 7, 6]
theorem tab64_is : (Rows.laid_math_bits_deBruijn64tab : DataW Unit) = tabData .u8 tab64 := by kernel_rfl

theorem cell_lt {w : World} {b o : Nat} {v : Value} (h : w.cell? ⟨b, o, none⟩ = some v) : b < w.heap.size := by
  rcases Nat.lt_or_ge b w.heap.size with h1 | h1
  · exact h1
  · unfold World.cell? at h
    simp [Array.getElem?_eq_none h1] at h

theorem tabs_of_laid {W : World} (h : laidMetH Tryd.prog laid4 W) : Tabs W := by
  rw [MakeChecks.laidMetH_plain _ _ _ (by kernel_rfl)] at h
  have h3 := laidMet.reads h (n := "unicode/utf8.first") (d := firstData) (by rw [laid4, first_is]; simp)
  have h4 := laidMet.reads h (n := "unicode/utf8.acceptRanges") (d := acceptData) (by rw [laid4, accept_is]; simp)
  have h64 := laidMet.reads h (n := "math/bits.deBruijn64tab") (d := tabData .u8 tab64) (by rw [laid4, tab64_is]; simp)
  obtain ⟨g, t, cs, fuel, p, hg, hty, hvar, hd⟩ := h64
  obtain rfl := Option.some.inj ((show Tryd.prog.globalNamed "math/bits.deBruijn64tab" = some 3 by kernel_rfl).symm.trans hg)
  obtain rfl := Option.some.inj ((show (Tryd.prog.globals[3]?).map (·.type) = some 145 by kernel_rfl).symm.trans hty)
  have hcs := cells_of_tab Tryd.underlying145 Tryd.underlying5 (by kernel_rfl) (by kernel_rfl) hd
  have hc : ∀ c, W.cell? ⟨3, c, none⟩ = (tab64.map fun z => Value.int .u8 z)[c]? := fun c => by
    rw [World.var?_cell hg hvar c, ← Array.getElem?_toList, hcs]
  have z0 : W.cell? ⟨3, 0, none⟩ = some (.int .u8 0) := hc 0
  exact ⟨⟨z0, hc 1, hc 3, hc 7, cell_lt z0⟩, utf8Tabs_of_readsT tryd_u8types tryd_u8extra h3 h4⟩

end Go.Proofs.YtepinmeidjlmmaaDoor
