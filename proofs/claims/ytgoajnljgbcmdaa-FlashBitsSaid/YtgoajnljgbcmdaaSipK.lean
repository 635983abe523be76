/- A row of bytes of the call's own, also one that came of a string; the reference's Derive. -/
import Derived.Test.YtgoajnljgbcmdaaSipJ
namespace Go.Proofs.Ytgoajnljgbcmdaa
open Go.RowKit
set_option maxRecDepth 100000

/-- v is a slice of the call's own with the bytes zs: nil, or a row from base on whose cells up to the capacity are there and free -/
def Row (w : World) (base : Nat) (v : Value) (n : Nat) (zs : List Int) : Prop :=
  zs.length = n ∧ ((v = .slice none 0 0 ∧ n = 0) ∨ ∃ g cap, v = .slice (some ⟨g, 0, none⟩) n cap ∧ base ≤ g ∧ g < w.heap.size ∧ n ≤ cap ∧ cap ≤ maxLen ∧
    (∀ j, j < n → w.cell? ⟨g, j, none⟩ = some (.int .u8 (zs.getD j 0))) ∧ (∀ j, j < cap → (w.cell? ⟨g, j, none⟩).isSome = true ∧ w.frozen? ⟨g, j, none⟩ = false))

theorem bv_at (zs : List Int) (j : Nat) (h : j < zs.length) : (bv zs)[j]? = some (.int .u8 (zs.getD j 0)) := by
  simp only [bv, List.getElem?_map, List.getD]
  rw [List.getElem?_eq_getElem h]; rfl
theorem addr_add (g j : Nat) : (⟨g, 0, none⟩ : Addr).add j = ⟨g, j, none⟩ := by unfold Addr.add; split <;> simp_all

theorem Row.of_own {w : World} {base n : Nat} {v : Value} {zs : List Int} (h : w.ownsRow base 5 1 v n (bv zs)) : Row w base v n zs := by
  have hl : zs.length = n := by have := h.1; rw [bv_len] at this; omega
  refine ⟨hl, ?_⟩
  have h2 := h
  rcases h.2 with h0 | ⟨g, cap, cur, hv, hb, hh, h1, hm, hsz, _⟩
  · exact .inl h0
  · subst hv
    refine .inr ⟨g, cap, rfl, hb, (Array.getElem?_eq_some_iff.1 hh).1, h1, hm, fun j hj => ?_, fun j hj => ⟨?_, h2.frozenAt j⟩⟩
    · rw [h2.cellAt j (by omega)]; exact bv_at zs j (by omega)
    · rw [cell_of_row w g j cur _ _ hh]
      simp; omega
theorem Row.below {w w' : World} {base n : Nat} {v : Value} {zs : List Int} (h : Row w base v n zs) (hb : Below w.heap.size w w') : Row w' base v n zs := by
  refine ⟨h.1, ?_⟩
  rcases h.2 with h0 | ⟨g, cap, hv, hg, hlt, h1, hm, hc, hf⟩
  · exact .inl h0
  · refine .inr ⟨g, cap, hv, hg, Nat.lt_of_lt_of_le hlt hb.size, h1, hm, fun j hj => (hb.cell (p := ⟨g, j, none⟩) hlt).trans (hc j hj), fun j hj => ?_⟩
    rw [hb.cell (p := ⟨g, j, none⟩) hlt, hb.frozen (p := ⟨g, j, none⟩) hlt]
    exact hf j hj
theorem Row.alloc {w : World} {base n : Nat} {v : Value} {zs : List Int} (h : Row w base v n zs) (o : Obj) : Row (w.alloc o) base v n zs :=
  h.below ((Below.refl _ w).alloc (Nat.le_refl _) o)
theorem Row.bytes {w : World} {base n : Nat} {v : Value} {zs : List Int} (h : Row w base v n zs) (hr : ∀ z ∈ zs, 0 ≤ z ∧ z ≤ 255) :
    ∃ A cap, v = .slice A n cap ∧ n ≤ cap ∧ cap ≤ 9223372036854775807 ∧ Bytes w A n zs := by
  rcases h.2 with ⟨hv, h0⟩ | ⟨g, cap, hv, _, _, h1, hm, hc, _⟩
  · subst h0
    exact ⟨none, 0, hv, Nat.le_refl _, by omega, h.1, hr, fun i hi => absurd hi (by omega)⟩
  · exact ⟨_, cap, hv, h1, hm, h.1, hr, fun i hi => ⟨_, rfl, by rw [addr_add]; exact hc i hi⟩⟩
theorem Bytes.cells {w : World} {a : Addr} {m : Nat} {zs : List Int} (h : Bytes w (some a) m zs) : ∀ j u, (bv zs)[j]? = some u → w.cell? (a.add j) = some u := by
  intro j u hj
  have hjm : j < zs.length := by
    rcases Nat.lt_or_ge j zs.length with h1 | h1
    · exact h1
    · rw [List.getElem?_eq_none (by rw [bv_len]; exact h1)] at hj; cases hj
  rw [bv_at zs j hjm] at hj
  cases hj
  obtain ⟨a2, e, hc⟩ := h.at_ j (by have := h.len; omega)
  cases e
  exact hc
theorem bv_one (zs : List Int) : ∀ u ∈ bv zs, u.oneCell' = true := by
  intro u hu
  simp only [bv, List.mem_map] at hu
  obtain ⟨z, _, rfl⟩ := hu
  rfl

theorem below_setCells {base g : Nat} (hg : base ≤ g) : ∀ (vs : List Value) (o : Nat) (w : World), Below base w (w.setCells g o vs)
  | [], _, w => Below.refl _ w
  | v :: r, o, w => ((Below.refl base w).setCell (p := ⟨g, o, none⟩) hg v).trans (below_setCells hg r (o + 1) _)
theorem some_setCells (g : Nat) : ∀ (vs : List Value) (o : Nat) (w : World) (x : Addr), (w.cell? x).isSome = true → ((w.setCells g o vs).cell? x).isSome = true
  | [], _, _, _, h => h
  | v :: r, o, w, x, h => by
    refine some_setCells g r (o + 1) _ x ?_
    by_cases e : (⟨g, o, none⟩ : Addr) = x
    · subst e
      rw [World.cell?_setCell_same' w _ v h]
      rfl
    · rw [World.cell?_setCell_other _ _ _ _ e]
      exact h

theorem run_append_row {w : World} {base n m cap : Nat} {v : Value} {xs zs : List Int} {a : Addr} {ty : TypeId} (h : Row w base v n xs) (hB : Bytes w (some a) m zs) (hn : n + m ≤ 100000000000000) (hb : base ≤ w.heap.size) :
    ∃ v' w', (Builtin.append_ #[22, 22] ty #[v, .slice (some a) m cap]).run Try.prog w = .ok v' w' ∧ Row w' base v' (n + m) (xs ++ zs) ∧ Below base w w' := by
  obtain ⟨i0, hi, hz0, hz1, hz2⟩ := info_parts infoB
  have hnl : (bv zs).length = m * 1 := by rw [bv_len, hB.len, Nat.mul_one]
  have hxl := h.1
  have hzl := hB.len
  rcases h.2 with ⟨hv, h0⟩ | ⟨g, c, hv, hg, hlt, h1, hm, hc, hf⟩
  · subst hv
    subst h0
    have hx0 : xs = [] := List.eq_nil_of_length_eq_zero hxl
    subst hx0
    obtain ⟨v', w', r1, r2, r3, _⟩ := run_append_own (P := Try.prog) w base 22 ty 5 i0 (.int .u8 0) 1 1 Try.underlying22 hi hz0 hz1 hz2 rfl (by decide) (.slice none 0 0) 0 [] (World.ownsRow_nil w base 5 1) a m cap (bv zs) hnl hB.cells (bv_one zs) (by unfold maxLen; omega) (by omega) hb
    exact ⟨v', w', r1, Row.of_own r2, below_of_grown (World.ownsRow_nil w base 5 1) hb r3⟩
  · subst hv
    by_cases hroom : n + m ≤ c
    · have hr := run_append_room_cells (P := Try.prog) w 22 ty 5 i0 Try.underlying22 hi g 0 n c a m cap (bv zs) (by rw [hz1]; exact hnl) hB.cells (bv_one zs) hroom
        (fun j hj => by rw [hz1]; have := (hf (0 + n * 1 + j) (by rw [hnl] at hj; omega)).1; exact this) (fun j hj => by rw [hz1]; exact (hf (0 + n * 1 + j) (by rw [hnl] at hj; omega)).2)
      rw [hz1] at hr
      have hbl : Below base w (w.setCells g (0 + n * 1) (bv zs)) := below_setCells hg _ _ _
      refine ⟨_, _, hr, ⟨by simp; omega, .inr ⟨g, c, rfl, hg, Nat.lt_of_lt_of_le hlt hbl.size, hroom, hm, fun j hj => ?_, fun j hj => ⟨?_, ?_⟩⟩⟩, hbl⟩
      · by_cases hjn : j < n
        · rw [World.cell?_setCells_out g (bv zs) (0 + n * 1) w ⟨g, j, none⟩ (fun _ _ => by simp; omega), hc j hjn]
          simp only [List.getD]
          rw [List.getElem?_append_left (by omega)]
        · have := World.cell?_setCells_in g (bv zs) (0 + n * 1) w (fun i hi => (hf _ (by rw [hnl] at hi; omega)).1) (j - n) (by rw [hnl]; omega)
          rw [show 0 + n * 1 + (j - n) = j by omega] at this
          rw [this]
          simp only [bv, List.getElem_map, List.getD]
          rw [List.getElem?_append_right (by omega), hxl, List.getElem?_eq_getElem (by omega)]
          rfl
      · exact some_setCells g (bv zs) _ w _ (hf j hj).1
      · rw [World.frozen?_setCells]; exact (hf j hj).2
    · obtain ⟨v', w', r1, r2, r3⟩ := run_append_arg_grows (P := Try.prog) w 22 ty 5 i0 (.int .u8 0) 1 1 Try.underlying22 hi hz0 hz1 hz2 rfl (by decide) ⟨g, 0, none⟩ n c (bv xs) (by rw [bv_len]; omega)
        (fun j u hj => by
          have hjm : j < xs.length := by
            rcases Nat.lt_or_ge j xs.length with q | q
            · exact q
            · rw [List.getElem?_eq_none (by rw [bv_len]; exact q)] at hj; cases hj
          rw [bv_at xs j hjm] at hj
          cases hj
          rw [addr_add]
          exact hc j (by omega)) a m cap (bv zs) hnl hB.cells (by omega) (by unfold maxLen; omega) (by omega)
      rw [← bv_app] at r2
      have h5 := Row.of_own r2
      refine ⟨v', w', r1, ⟨h5.1, h5.2.imp id fun ⟨g', c', e1, e2, e3⟩ => ⟨g', c', e1, by omega, e3⟩⟩, (Below.refl base w).grown r3 hb (fun k hk => by cases hk)⟩
end Go.Proofs.Ytgoajnljgbcmdaa
