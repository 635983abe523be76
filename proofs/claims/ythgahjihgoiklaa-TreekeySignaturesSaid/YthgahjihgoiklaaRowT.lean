/- Arguments of this seat's rows, opened: a public key, a signature. -/
import Derived.Test.YthgahjihgoiklaaRowA
import Derived.Lib.SmallJoins
namespace Go.Proofs.Ythgahjihgoiklaa
open Go.ChangeShapes Go.WideShapes Go.ChangeAt Go.RowKit Go.Joins
set_option maxRecDepth 100000

theorem i64_wf {z : Int} (h : (Lit.int .i64 z).wf = true) : -9223372036854775808 ≤ z ∧ z ≤ 9223372036854775807 := by
  have h1 : (decide (IntKind.i64.min ≤ z) && decide (z ≤ IntKind.i64.max)) = true := h
  simp only [Bool.and_eq_true, decide_eq_true_eq] at h1
  exact ⟨h1.1, h1.2⟩
/-- a []uint64 as it is read -/
theorem open_words_at {H : Type} {enc : TypeId × Value → H} {W : World} {base fuel : Nat} {v : Value} {y : DataW H × List MemPlace} (hf : DataW.trod enc Try.prog W base (fun _ => true) true fuel 30 [v] = some y) :
    ∃ (A : Option Addr) (n cap : Nat) (ws : List (BitVec 64)), v = .slice A n cap ∧ n ≤ cap ∧ cap ≤ 9223372036854775807 ∧ Ws W A n ws := by
  rcases open_ints Try.underlying30 Try.underlying22 cells_u64 hf with ⟨hcs, hx⟩ | ⟨a, len', cap', zs, hcs, _, hl, hm, hz, hx, hcell, hwz⟩
  · simp at hcs
    subst hcs
    exact ⟨none, 0, 0, [], rfl, Nat.le_refl _, by omega, rfl, fun i hi => absurd hi (by omega)⟩
  · simp at hcs
    subst hcs
    simp only [if_true] at hz
    refine ⟨some a, len', cap', (zs.take len').map (BitVec.ofInt 64), rfl, hl, by unfold maxLen at hm; omega, by simp; omega, fun i hi => ⟨a, rfl, ?_⟩⟩
    rw [hcell i (by omega)]
    have hil : i < zs.length := by omega
    have hw := u64_of_wf (hwz zs[i] (List.getElem_mem hil))
    simp only [List.getD, List.getElem?_map, List.getElem?_take, hi, if_true, List.getElem?_eq_getElem hil, Option.map_some, Option.getD_some]
    rw [← val_of hw.1 hw.2]
theorem open_key {H : Type} {enc : TypeId × Value → H} {W : World} {b0 base : Nat} {r : Reach} {v : Value} {d : DataW H} {ps : List MemPlace} (hval : Value.okWide Try.prog W r b0 24 v) (hd : DataW.Trod enc Try.prog W base (fun _ => true) true 24 v d ps) :
    ∃ (h : Int) (root : BitVec 64), v = .agg #[.int .i64 h, .int .u64 (val root)] ∧ h ≤ 9223372036854775807 := by
  obtain ⟨c0, c1, y0, y1, m, rfl, rfl, rfl, hy0, hy1⟩ := open_agg2 Try.underlying24 (by kernel_rfl) (by kernel_rfl) hval hd
  obtain ⟨a, e0, rfl, wa⟩ := DataW.trod_int Try.underlying3 hy0
  obtain ⟨b, e1, rfl, wb⟩ := DataW.trod_int Try.underlying22 hy1
  simp at e0 e1
  subst e0 e1
  have hb := u64_of_wf wb
  refine ⟨a, BitVec.ofInt 64 b, ?_, (i64_wf wa).2⟩
  rw [← val_of hb.1 hb.2]
theorem open_sig {H : Type} {enc : TypeId × Value → H} {W : World} {b0 base : Nat} {r : Reach} {v : Value} {d : DataW H} {ps : List MemPlace} (hval : Value.okWide Try.prog W r b0 32 v) (hd : DataW.Trod enc Try.prog W base (fun _ => true) true 32 v d ps) :
    ∃ (l : Int) (A : Option Addr) (n c : Nat) (cs : List (BitVec 64)) (B : Option Addr) (n2 c2 : Nat) (qs : List (BitVec 64)), v = .agg #[.int .i64 l, .slice A n c, .slice B n2 c2] ∧ Ws W A n cs ∧ Ws W B n2 qs ∧ n ≤ c ∧ n2 ≤ c2 ∧ (-9223372036854775808 ≤ l ∧ l ≤ 9223372036854775807) := by
  obtain ⟨c0, c1, c2, y0, y1, y2, m, rfl, rfl, rfl, hy0, hy1, hy2⟩ := open_agg3 Try.underlying32 (by kernel_rfl) (by kernel_rfl) hval hd
  obtain ⟨a, e0, rfl, wa⟩ := DataW.trod_int Try.underlying3 hy0
  simp at e0
  subst e0
  obtain ⟨A, n, c, cs, rfl, h1, _, hA⟩ := open_words_at hy1
  obtain ⟨B, n2, c2, qs, rfl, h2, _, hB⟩ := open_words_at hy2
  exact ⟨a, A, n, c, cs, B, n2, c2, qs, rfl, hA, hB, h1, h2, i64_wf wa⟩
end Go.Proofs.Ythgahjihgoiklaa
