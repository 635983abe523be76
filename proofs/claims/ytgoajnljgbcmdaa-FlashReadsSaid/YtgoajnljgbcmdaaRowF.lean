/- What the rows of layer 7 ask beside: a []int argument, a flash argument, bytes whose nil has no capacity. -/
import Derived.Test.YtgoajnljgbcmdaaRowA
import Derived.Test.YtgoajnljgbcmdaaFlG
import Derived.Lib.SmallJoins
namespace Go.Proofs.Ytgoajnljgbcmdaa
open Go.ChangeShapes Go.WideShapes Go.ChangeAt Go.RowKit Go.Joins
set_option maxRecDepth 100000

theorem cells_int : Try.prog.cellsOf 3 = 1 := by kernel_rfl
theorem i64_of_wf7 {z : Int} (h : (Lit.int .i64 z).wf = true) : -9223372036854775808 ≤ z ∧ z ≤ 9223372036854775807 := by
  have h1 : (decide (IntKind.i64.min ≤ z) && decide (z ≤ IntKind.i64.max)) = true := h
  simp only [Bool.and_eq_true, decide_eq_true_eq] at h1
  exact ⟨h1.1, h1.2⟩
theorem open_nums {H : Type} {enc : TypeId × Value → H} {W : World} {b0 base : Nat} {r : Reach} {v : Value} {d : DataW H} {ps : List MemPlace} (hval : Value.okWide Try.prog W r b0 26 v) (hd : DataW.Trod enc Try.prog W base (fun _ => true) true 26 v d ps) :
    ∃ (A : Option Addr) (n cap : Nat) (zs : List Int), v = .slice A n cap ∧ n ≤ cap ∧ cap ≤ 9223372036854775807 ∧ Nums W A n zs := by
  obtain ⟨a0, len, cap, rfl⟩ := okWide_slice Try.underlying26 hval
  obtain ⟨fuel, hf⟩ := hd
  rcases open_ints Try.underlying26 Try.underlying3 cells_int hf with ⟨hcs, hx⟩ | ⟨a, len', cap', zs, hcs, _, hl, hm, hz, hx, hcell, hwz⟩
  · simp [Value.cells] at hcs
    obtain ⟨rfl, rfl, rfl⟩ := hcs
    exact ⟨none, 0, 0, [], rfl, Nat.le_refl _, by omega, rfl, fun i hi => absurd hi (by omega)⟩
  · simp [Value.cells] at hcs
    obtain ⟨rfl, rfl, rfl⟩ := hcs
    simp only [if_true] at hz
    refine ⟨some a, len, cap, zs.take len, rfl, hl, by unfold maxLen at hm; omega, by simp; omega, fun i hi => ⟨a, rfl, ?_⟩⟩
    rw [hcell i (by omega)]
    simp [List.getD, hi]
/-- A []byte argument, opened: nil has no capacity -/
theorem open_bytes0 {H : Type} {enc : TypeId × Value → H} {W : World} {b0 base : Nat} {r : Reach} {v : Value} {d : DataW H} {ps : List MemPlace} (hval : Value.okWide Try.prog W r b0 22 v) (hd : DataW.Trod enc Try.prog W base (fun _ => true) true 22 v d ps) :
    ∃ (A : Option Addr) (n cap : Nat) (zs : List Int), v = .slice A n cap ∧ n ≤ cap ∧ cap ≤ 9223372036854775807 ∧ Bytes W A n zs ∧ (A = none → cap = 0) := by
  obtain ⟨a0, len, cap, rfl⟩ := okWide_slice Try.underlying22 hval
  obtain ⟨fuel, hf⟩ := hd
  rcases open_ints Try.underlying22 Try.underlying5 cells_u8 hf with ⟨hcs, hx⟩ | ⟨a, len', cap', zs, hcs, _, hl, hm, hz, hx, hcell, hwz⟩
  · simp [Value.cells] at hcs
    obtain ⟨rfl, rfl, rfl⟩ := hcs
    exact ⟨none, 0, 0, [], rfl, Nat.le_refl _, by omega, ⟨rfl, (by simp), fun i hi => absurd hi (by omega)⟩, fun _ => rfl⟩
  · simp [Value.cells] at hcs
    obtain ⟨rfl, rfl, rfl⟩ := hcs
    simp only [if_true] at hz
    refine ⟨some a, len, cap, zs.take len, rfl, hl, by unfold maxLen at hm; omega, ⟨by simp; omega, fun z hzm => u8_of_wf (hwz z (List.mem_of_mem_take hzm)), fun i hi => ⟨a, rfl, ?_⟩⟩, fun h => by cases h⟩
    rw [hcell i (by omega)]
    simp [List.getD, hi]
/-- a flash argument, opened -/
theorem open_flash {H : Type} {enc : TypeId × Value → H} {W : World} {b0 base : Nat} {r : Reach} {v : Value} {d : DataW H} {ps : List MemPlace} (hval : Value.okWide Try.prog W r b0 24 v) (hd : DataW.Trod enc Try.prog W base (fun _ => true) true 24 v d ps) :
    ∃ (P : Int) (A : Option Addr) (n c : Nat), v = .agg #[.int .i64 P, .slice A n c] := by
  obtain ⟨c0, c1, y0, y1, m, rfl, rfl, rfl, hy0, hy1⟩ := open_agg2 Try.underlying24 (by kernel_rfl) (by kernel_rfl) hval hd
  obtain ⟨a, e0, rfl, wa⟩ := DataW.trod_int Try.underlying3 hy0
  simp at e0
  subst e0
  rcases open_ints Try.underlying22 Try.underlying5 cells_u8 hy1 with ⟨hcs, hx⟩ | ⟨A, len', cap', zs, hcs, _⟩
  · simp at hcs
    subst hcs
    exact ⟨a, none, 0, 0, rfl⟩
  · simp at hcs
    subst hcs
    exact ⟨a, some A, len', cap', rfl⟩
end Go.Proofs.Ytgoajnljgbcmdaa
