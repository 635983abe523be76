/- The law CborMaps; its arguments, opened. -/
import Derived.Test.YtepinmeidjlmmaaDoorMF
import Derived.Test.YtepinmeidjlmmaaDoorMFz
import Derived.Test.YtepinmeidjlmmaaDoorMFa
import Derived.Test.YtepinmeidjlmmaaDoorMFb
namespace Go.Proofs.YtepinmeidjlmmaaDoor
open Go.ChangeShapes Go.WideShapes Go.ChangeAt Go.RowKit
set_option maxRecDepth 100000

theorem maps_big (A R : Option Addr) (n kcap M rc : Nat) (z : Int) (w : World) (h12 : 12 < n) (ht : Tabs w) :
    Calls Tryd.prog 11 #[.slice A n kcap, .slice R M rc, .int .i64 z] w fun e w' => e = .returned (.bool true) ∧ Below w.heap.size w w' := by
  have h12' : (12 : Int) < (n : Int) := by omega
  go_enter Tryd.func11, Tryd.ntmps11
  go_wp2_with fail
  refine (awake_any _ ht).mono ?_
  rintro e w8 ⟨rfl, hb8⟩
  have HB8 := Lib.hid hb8
  clear hb8
  go_wp2
  go_ret
  exact ⟨rfl, HB8.out⟩
theorem maps_law (A R : Option Addr) (n kcap M rc : Nat) (l : List Int) (K : Nat → Int) (z : Int) (w : World) (hk : ∀ i, i < n → ∃ ka, A = some ka ∧ w.cell? (ka.add i) = some (.int .u64 (K i))) (hK : ∀ i, 0 ≤ K i)
    (h : Ints w R M l) (hcap : M ≤ rc) (hm : rc ≤ 9223372036854775807) (ht : Tabs w) :
    Calls Tryd.prog 11 #[.slice A n kcap, .slice R M rc, .int .i64 z] w fun e w' => e = .returned (.bool true) ∧ Below w.heap.size w w' := by
  by_cases h12 : n ≤ 12
  · by_cases h0 : z % 16 = 0
    · exact maps_more A R n kcap M rc l K z w hk hK h12 h hcap hm ht h0
    · by_cases h1 : z % 16 = 1
      · by_cases hn : n = 0
        · subst hn; exact maps_zero A R kcap M rc l K z w hk hK h hcap hm ht h1
        · exact maps_spoilt A R n kcap M rc l K z w hk hK h12 h hcap hm ht h1 (by omega)
      · exact maps_other A R n kcap M rc l K z w hk hK h12 h hcap hm ht h0 h1
  · exact maps_big A R n kcap M rc z w (by omega) ht
theorem keys_wf {z : Int} (h : (Lit.int .u64 z).wf = true) : 0 ≤ z := by
  have h1 : (decide (IntKind.u64.min ≤ z) && decide (z ≤ IntKind.u64.max)) = true := h
  simp only [Bool.and_eq_true, decide_eq_true_eq] at h1
  exact h1.1
theorem open_nums_cap {H : Type} {enc : TypeId × Value → H} {W : World} {b0 base : Nat} {r : Reach} {v : Value} {d : DataW H} {ps : List MemPlace} (hval : Value.okWide Tryd.prog W r b0 30 v) (hd : DataW.Trod enc Tryd.prog W base (fun _ => true) true 30 v d ps) :
    ∃ (A : Option Addr) (n cap : Nat) (l : List Int), v = .slice A n cap ∧ n ≤ cap ∧ cap ≤ 9223372036854775807 ∧ Ints W A n l := by
  obtain ⟨a0, len, cap, rfl⟩ := okWide_slice Tryd.underlying30 hval
  obtain ⟨fuel, hf⟩ := hd
  rcases open_ints Tryd.underlying30 Tryd.underlying3 tryd_cells3 hf with ⟨hcs, hx⟩ | ⟨a, len', cap', zs, hcs, _, hl, hm, hz, hx, hcell, hwz⟩
  · simp [Value.cells] at hcs
    obtain ⟨rfl, rfl, rfl⟩ := hcs
    exact ⟨none, 0, 0, [], rfl, Nat.le_refl _, by omega, rfl, fun i hi => absurd hi (by omega)⟩
  · simp [Value.cells] at hcs
    obtain ⟨rfl, rfl, rfl⟩ := hcs
    simp only [if_true] at hz
    refine ⟨some a, len, cap, zs.take len, rfl, hl, by unfold maxLen at hm; omega, by simp; omega, fun i hi => ⟨a, rfl, ?_⟩⟩
    rw [hcell i (by omega)]
    simp [List.getD, hi]
theorem open_keys {H : Type} {enc : TypeId × Value → H} {W : World} {b0 base : Nat} {r : Reach} {v : Value} {d : DataW H} {ps : List MemPlace} (hval : Value.okWide Tryd.prog W r b0 49 v) (hd : DataW.Trod enc Tryd.prog W base (fun _ => true) true 49 v d ps) :
    ∃ (A : Option Addr) (n cap : Nat) (K : Nat → Int), v = .slice A n cap ∧ (∀ i, i < n → ∃ ka, A = some ka ∧ W.cell? (ka.add i) = some (.int .u64 (K i))) ∧ ∀ i, 0 ≤ K i := by
  obtain ⟨a0, len, cap, rfl⟩ := okWide_slice Tryd.underlying49 hval
  obtain ⟨fuel, hf⟩ := hd
  rcases open_ints Tryd.underlying49 Tryd.underlying45 tryd_cells45 hf with ⟨hcs, hx⟩ | ⟨a, len', cap', zs, hcs, _, hl, hm, hz, hx, hcell, hwz⟩
  · simp [Value.cells] at hcs
    obtain ⟨rfl, rfl, rfl⟩ := hcs
    exact ⟨none, 0, 0, fun _ => 0, rfl, fun i hi => absurd hi (by omega), fun _ => Int.le_refl _⟩
  · simp [Value.cells] at hcs
    obtain ⟨rfl, rfl, rfl⟩ := hcs
    simp only [if_true] at hz
    refine ⟨some a, len, cap, fun i => zs.getD i 0, rfl, fun i hi => ⟨a, rfl, hcell i (by omega)⟩, fun i => ?_⟩
    show 0 ≤ zs.getD i 0
    by_cases hi : i < zs.length
    · have hw := hwz zs[i] (List.getElem_mem hi)
      have e : zs.getD i 0 = zs[i] := by simp [List.getD, List.getElem?_eq_getElem hi]
      rw [e]
      exact (keys_wf hw)
    · have e : zs.getD i 0 = 0 := by simp [List.getD, List.getElem?_eq_none (Nat.le_of_not_lt hi)]
      rw [e]
      exact Int.le_refl _
end Go.Proofs.YtepinmeidjlmmaaDoor
