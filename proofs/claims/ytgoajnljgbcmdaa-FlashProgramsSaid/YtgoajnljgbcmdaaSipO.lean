/- append(b, make([]byte, k)...) onto a row; the law DigestTail. -/
import Derived.Test.YtgoajnljgbcmdaaSipN
import Derived.Lib.AppendZerosOnto
namespace Go.Proofs.Ytgoajnljgbcmdaa
open Go.RowKit
set_option maxRecDepth 100000

theorem zc_at (m j : Nat) (h : j < m) : (Builtin.zeroCells #[Value.int .u8 0] m)[j]? = some (.int .u8 0) := by
  simp [Builtin.zeroCells, h, Nat.mod_one]
theorem zc_size (m : Nat) : (Builtin.zeroCells #[Value.int .u8 0] m).size = m := by simp [Builtin.zeroCells]
theorem zc_list (m : Nat) : (Builtin.zeroCells #[Value.int .u8 0] m).toList = bv (List.replicate m 0) := by
  apply List.ext_getElem?
  intro j
  rw [Array.getElem?_toList]
  rcases Nat.lt_or_ge j m with h | h
  · rw [zc_at m j h]; simp [bv, h]
  · rw [Array.getElem?_eq_none (by rw [zc_size]; exact h), List.getElem?_eq_none (by simp [bv]; exact h)]

theorem Row.of_new {w : World} {base g c n : Nat} {C : Array Value} {zs : List Int} (hh : w.heap[g]? = some (.cells C 5 (0, 0))) (hC : ∀ j, j < n → C[j]? = some (.int .u8 (zs.getD j 0))) (hs : C.size = c) (hn : n ≤ c) (hm : c ≤ maxLen) (hl : zs.length = n) (hb : base ≤ g) :
    Row w base (.slice (some ⟨g, 0, none⟩) n c) n zs := by
  refine ⟨hl, .inr ⟨g, c, rfl, hb, (Array.getElem?_eq_some_iff.1 hh).1, hn, hm, fun j hj => ?_, fun j hj => ⟨?_, ?_⟩⟩⟩
  · rw [cell_of_row w g j C _ _ hh]; exact hC j hj
  · rw [cell_of_row w g j C _ _ hh]; simp; omega
  · simp [World.frozen?, hh]

theorem getD_app_left (a b : List Int) (j : Nat) (h : j < a.length) : (a ++ b).getD j 0 = a.getD j 0 := by
  simp only [List.getD]; rw [List.getElem?_append_left h]
theorem getD_app_zero (a : List Int) (m j : Nat) (h : a.length ≤ j) : (a ++ List.replicate m 0).getD j 0 = 0 := by
  simp only [List.getD]
  rw [List.getElem?_append_right h]
  rcases Nat.lt_or_ge (j - a.length) m with h1 | h1
  · simp [h1]
  · rw [List.getElem?_eq_none (by simpa using h1)]; rfl

theorem run_append_zeros_row {w : World} {base n k : Nat} {v : Value} {xs : List Int} {ty : TypeId} (h : Row w base v n xs) (hn : n + k ≤ 1000000) (hb : base ≤ w.heap.size) :
    ∃ v' w', (Builtin.append_ #[22, 5] ty #[v, .int .u8 (k : Int)]).run Try.prog w = .ok v' w' ∧ Row w' base v' (n + k) (xs ++ List.replicate k 0) ∧ Below base w w' := by
  obtain ⟨i0, hi, hz0, hz1, hz2⟩ := info_parts infoB
  have hxl := h.1
  have hw : IntKind.i64.wrap (k : Int) = k := by rw [IntKind.wrap_i64]; omega
  have hneg : ¬ ((k : Int) < 0) := by omega
  have h48i : ¬ (281474976710656 < (k : Int) * (i0.bytes : Int)) := by rw [hz2]; omega
  rcases Nat.eq_zero_or_pos k with hk0 | hk0
  · subst hk0
    have hw0 : IntKind.i64.wrap 0 = 0 := by decide
    refine ⟨v, w, ?_, by simpa using h, Below.refl _ _⟩
    rcases h.2 with ⟨hv, h0⟩ | ⟨g, c, hv, hg, hlt, h1, hm, hc, hf⟩
    · subst hv
      simp [Builtin.append_, run_underlying Try.underlying22, run_underlying Try.underlying5, sizeOf, typeInfo, hi, asInt, asIntOf, hw0]
    · subst hv
      simp [Builtin.append_, run_underlying Try.underlying22, run_underlying Try.underlying5, sizeOf, typeInfo, hi, asInt, asIntOf, hw0, h1, storeCells]
  rcases h.2 with ⟨hv, h0⟩ | ⟨g, c, hv, hg, hlt, h1, hm, hc, hf⟩
  · subst hv
    subst h0
    have hx0 : xs = [] := List.eq_nil_of_length_eq_zero hxl
    subst hx0
    have hr := Lib.run_append_nil_zeros (P := Try.prog) w 22 5 ty 5 i0 (.int .u8 0) .u8 .u8 Try.underlying22 Try.underlying5 hi hz0 k hk0 (by omega) (by omega) (by rw [hz2]; omega)
    have hge := grownCap_ge w k 0 5
    have hmx := grownCap_le_maxLen w k 0 5 (by unfold maxLen; omega)
    generalize grownCap w k 0 5 = c at *
    refine ⟨_, _, hr, ?_, ((Below.refl base w).drew).alloc hb _⟩
    have hR := Row.of_new (w := w.drew.alloc (.cells (Builtin.zeroCells #[Value.int .u8 0] k ++ Builtin.zeroCells #[Value.int .u8 0] (c - k)) 5)) (base := base) (g := w.heap.size) (c := c) (n := 0 + k) (zs := [] ++ List.replicate k 0) (heap_alloc_new w.drew _)
      (fun j hj => by
        rw [Array.getElem?_append_left (by rw [zc_size]; omega), zc_at k j (by omega)]
        rw [getD_app_zero [] k j (by simp)])
      (by rw [Array.size_append, zc_size, zc_size]; omega) (by omega) hmx (by simp) hb
    rw [Nat.zero_add] at hR ⊢
    exact hR
  · subst hv
    by_cases hroom : n + k ≤ c
    · have hbl : Below base w (w.setCells g n (bv (List.replicate k 0))) := below_setCells hg _ _ _
      have hst := run_storeCells_cells (P := Try.prog) g n (bv (List.replicate k 0)) 0 w (fun j hj => by have := (hf (n + j) (by rw [bv_len] at hj; simp at hj; omega)).1; simpa using this) (fun j hj => by have := (hf (n + j) (by rw [bv_len] at hj; simp at hj; omega)).2; simpa using this) (bv_one _)
      simp only [Nat.add_zero] at hst
      have hks : ¬ (k = 0) := by omega
      have hr : (Builtin.append_ #[22, 5] ty #[.slice (some ⟨g, 0, none⟩) n c, .int .u8 (k : Int)]).run Try.prog w = .ok (.slice (some ⟨g, 0, none⟩) (n + k) c) (w.setCells g n (bv (List.replicate k 0))) := by
        have hzl : (Builtin.zeroCells (Value.int IntKind.u8 0).cells k).toList = bv (List.replicate k 0) := zc_list k
        simp [Builtin.append_, run_underlying Try.underlying22, run_underlying Try.underlying5, sizeOf, typeInfo, zeroValue, hi, hz0, hz1, asInt, asIntOf, hw, hneg, h48i, hroom, hks, hzl, Addr.add_lit, hst]
      refine ⟨_, _, hr, ⟨by simp; omega, .inr ⟨g, c, rfl, hg, Nat.lt_of_lt_of_le hlt hbl.size, hroom, hm, fun j hj => ?_, fun j hj => ⟨?_, ?_⟩⟩⟩, hbl⟩
      · by_cases hjn : j < n
        · rw [World.cell?_setCells_out g _ n w ⟨g, j, none⟩ (fun _ _ => by simp; omega), hc j hjn, getD_app_left _ _ _ (by omega)]
        · have := World.cell?_setCells_in g (bv (List.replicate k 0)) n w (fun i hi => (hf _ (by rw [bv_len] at hi; simp at hi; omega)).1) (j - n) (by rw [bv_len]; simp; omega)
          rw [show n + (j - n) = j by omega] at this
          rw [this, getD_app_zero _ _ _ (by omega)]
          simp [bv]
      · exact some_setCells g _ _ w _ (hf j hj).1
      · rw [World.frozen?_setCells]; exact (hf j hj).2
    · have hold : (Builtin.firstCells i0.size n (.slice (some ⟨g, 0, none⟩) n c)).run Try.prog w.drew = .ok (bv xs).toArray w.drew := by
        rw [hz1]
        have := run_firstCells_some (P := Try.prog) w.drew 1 n ⟨g, 0, none⟩ n c (bv xs) (by rw [bv_len]; omega) (fun j u hj => by
          have hjm : j < xs.length := by
            rcases Nat.lt_or_ge j xs.length with q | q
            · exact q
            · rw [List.getElem?_eq_none (by rw [bv_len]; exact q)] at hj; cases hj
          rw [bv_at xs j hjm] at hj
          cases hj
          rw [addr_add]
          exact hc j (by omega))
        exact this
      have hr := Lib.run_append_grow_zeros (P := Try.prog) w 22 5 ty 5 i0 (.int .u8 0) .u8 .u8 Try.underlying22 Try.underlying5 hi hz0 (some ⟨g, 0, none⟩) n c (bv xs) hold k hk0 (by omega) (by omega) (by omega) (by rw [hz2]; omega) (by rw [hz2]; exact growslice_fits (by omega) (by omega))
      have hge := grownCap_ge w (n + k) c 5
      have hmx := grownCap_le_maxLen w (n + k) c 5 (by unfold maxLen; omega)
      generalize grownCap w (n + k) c 5 = c2 at *
      refine ⟨_, _, hr, ?_, ((Below.refl base w).drew).alloc hb _⟩
      refine Row.of_new (heap_alloc_new w.drew _) (fun j hj => ?_) ?_ hge hmx (by simp; omega) hb
      · rw [Array.getElem?_append_left (by simp [bv_len, zc_size, Value.cells]; omega)]
        by_cases hjn : j < n
        · rw [Array.getElem?_append_left (by simp [bv_len]; omega)]
          simp only [List.getElem?_toArray]
          rw [bv_at xs j (by omega), getD_app_left _ _ _ (by omega)]
        · rw [Array.getElem?_append_right (by simp [bv_len]; omega), getD_app_zero _ _ _ (by omega)]
          exact zc_at k _ (by simp [bv_len]; omega)
      · simp [Array.size_append, bv_len, Value.cells, zc_size]; omega
end Go.Proofs.Ytgoajnljgbcmdaa
