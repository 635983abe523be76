/- CborMaps: one answer; the values, as the law builds them. -/
import Derived.Test.YtepinmeidjlmmaaDoorR20
namespace Go.Proofs.YtepinmeidjlmmaaDoor
open Go.RowKit
set_option maxRecDepth 100000

theorem strict_unique {K : Nat → Int} : ∀ {P Q : List Nat}, Strict K P → Strict K Q → P.Perm Q → P = Q
  | [], Q, _, _, h => by
    have := h.length_eq
    exact (List.eq_nil_of_length_eq_zero (by simpa using this.symm)).symm
  | a :: p, [], _, _, h => by have := h.length_eq; simp at this
  | a :: p, b :: q, h1, h2, h => by
    have e : a = b := by
      rcases List.mem_cons.1 (h.mem_iff.1 (List.mem_cons_self (a := a) (l := p))) with e | e
      · exact e
      · have k1 := (List.pairwise_cons.1 h2).1 a e
        rcases List.mem_cons.1 (h.mem_iff.2 (List.mem_cons_self (a := b) (l := q))) with e2 | e2
        · exact e2.symm
        · have k2 := (List.pairwise_cons.1 h1).1 b e2
          omega
    subst e
    rw [strict_unique (List.pairwise_cons.1 h1).2 (List.pairwise_cons.1 h2).2 (List.Perm.cons_inv h)]
theorem mapR_one {K : Nat → Int} {n : Nat} {ls : List (List It)} {r1 r2 : Int × List It} (h1 : MapR K n ls r1) (h2 : MapR K n ls r2) : r1 = r2 := by
  rcases h1 with ⟨a1, rfl⟩ | ⟨a1, b1, rfl⟩ | ⟨a1, b1, c1, rfl⟩ | ⟨a1, b1, c1, P, p1, s1, rfl⟩ <;> rcases h2 with ⟨a2, rfl⟩ | ⟨a2, b2, rfl⟩ | ⟨a2, b2, c2, rfl⟩ | ⟨a2, b2, c2, Q, p2, s2, rfl⟩
  all_goals first | rfl | exact absurd a2 a1 | exact absurd a1 a2 | exact absurd b2 b1 | exact absurd b1 b2 | exact absurd c2 c1 | exact absurd c1 c2 | skip
  rw [strict_unique s1 s2 (p1.trans p2.symm)]

/-- the values: an own row of slices, each lying in another block -/
def VN (w : World) (base : Nat) (v : Value) (ls : List (List It)) : Prop :=
  base ≤ w.heap.size ∧ ∃ vs, w.ownsRow base 22 1 v ls.length vs ∧ ∀ i (h : i < ls.length), ∃ A cap, vs[i]? = some (.slice A ls[i].length cap) ∧ ItemsAt w w.heap.size (.slice A ls[i].length cap) ls[i] ∧ ∀ a, A = some a → some a.block ≠ v.ownBlock
theorem VN.nil (w : World) (base : Nat) (hb : base ≤ w.heap.size) : VN w base (.slice none 0 0) [] := ⟨hb, [], World.ownsRow_nil _ _ _ _, fun i hi => absurd hi (by simp)⟩
theorem VN.below {w w' : World} {base : Nat} {v : Value} {ls : List (List It)} (h : VN w base v ls) (hb : Below w.heap.size w w') : VN w' base v ls := by
  obtain ⟨h0, vs, ho, hc⟩ := h
  refine ⟨Nat.le_trans h0 hb.size, vs, own_below ho hb, fun i hi => ?_⟩
  obtain ⟨A, cap, h1, h2, h3⟩ := hc i hi
  exact ⟨A, cap, h1, itemsAt_mono (h2.below hb) hb.size, h3⟩
theorem VN.vs {w : World} {base : Nat} {v : Value} {ls : List (List It)} (h : VN w base v ls) : VS w w.heap.size v ls := by
  obtain ⟨_, vs, ho, hc⟩ := h
  rcases ho.2 with ⟨hv, h0⟩ | ⟨g, cap, cur, hv, hb, hg, h1⟩
  · exact .inl ⟨hv, List.eq_nil_of_length_eq_zero h0⟩
  · refine .inr ⟨g, cap, hv, lt_of_heap hg, fun i hi => ?_⟩
    obtain ⟨A, c2, h2, h3, _⟩ := hc i hi
    refine ⟨A, c2, ?_, h3⟩
    have e : (⟨g, 0, none⟩ : Addr).add i = ⟨g, i, none⟩ := by unfold Addr.add; split <;> simp_all
    rw [← e]
    exact ho.cells (by rw [hv]; rfl) i _ h2
theorem items_far {w w' : World} {A : Option Addr} {cap : Nat} {l : List It} (h : ItemsAt w w.heap.size (.slice A l.length cap) l) (hs : w.heap.size ≤ w'.heap.size) (hk : ∀ a, A = some a → a.block < w.heap.size → w'.heap[a.block]? = w.heap[a.block]?) : ItemsAt w' w'.heap.size (.slice A l.length cap) l := by
  refine ⟨?_, h.ok, h.len⟩
  rcases h.form with h0 | ⟨b, off, c, hv, hlt, hc⟩
  · exact .inl h0
  · have hA : A = some ⟨b, off, none⟩ := by cases hv; rfl
    have he := hk _ hA hlt
    exact .inr ⟨b, off, c, hv, by omega, fun i hi => ⟨(World.cell?_of_block (a := ⟨b, off + i * 3, none⟩) he).trans (hc i hi).1, (World.cell?_of_block (a := ⟨b, off + i * 3 + 1, none⟩) he).trans (hc i hi).2.1, (World.cell?_of_block (a := ⟨b, off + i * 3 + 2, none⟩) he).trans (hc i hi).2.2⟩⟩

/-- append(v, a) of one slice of items -/
theorem app_val {ops : Array Oper} {rest : List Oper} {o : Oper} {a : Act} {Q : Exit → Act → World → Prop} {w : World} (hgd : o.guard = none) (s x : Operand)
    (ho : o.op = .call { callee := .builtin .append, args := #[s, x], argTypes := #[50, 50] }) {base : Nat} {v : Value} {ls : List (List It)} (hV : VN w base v ls) (hs : a.eval s = v) (hn : ls.length ≤ 1000)
    (B : Nat) (l1 : List It) (a1 : Option Addr) (c1 : Nat) (hB : w.heap[B]? = some (.cells #[.slice a1 l1.length c1] 22 (0, 0))) (hx : a.eval x = .slice (some ⟨B, 0, none⟩) 1 1)
    (I1 : ItemsAt w w.heap.size (.slice a1 l1.length c1) l1) (I2 : ∀ ad, a1 = some ad → some ad.block ≠ v.ownBlock ∧ ad.block < w.heap.size)
    (h : ∀ v' w', VN w' base v' (ls ++ [l1]) → Below base w w' → wpList Tryd.prog ops Q rest (a.put o.dst v') w') :
    wpList Tryd.prog ops Q (o :: rest) a w := by
  obtain ⟨hb, vs, hown, hc⟩ := hV
  obtain ⟨i0, hi, hz0, hz1, hz2⟩ := info_parts info22
  refine wpList_append_lies w hgd s x 50 ho base 22 i0 _ 1 24 Tryd.underlying50 hi hz0 hz1 hz2 rfl (by decide) v ls.length vs hs hown ⟨B, 0, none⟩ 1 1 [.slice a1 l1.length c1] hx rfl ?_ (by simp [Value.oneCell']) (by omega) (by unfold maxLen; omega) (by omega) hb _ rfl ?_
  · intro j u hj
    have e : (⟨B, 0, none⟩ : Addr).add j = ⟨B, j, none⟩ := by unfold Addr.add; split <;> simp_all
    rw [e]
    exact cell_of_block hB (by simpa using hj)
  intro g cap w' h1 h2 hlies _
  have hlen : vs.length = ls.length := by have := hown.1; omega
  have hnew : ∀ ad : Addr, some ad.block ≠ v.ownBlock → ad.block < w.heap.size → some ad.block ≠ (Value.slice (some ⟨g, 0, none⟩) (ls.length + 1) cap).ownBlock := by
    intro ad h3 h4 e
    have e2 : ad.block = g := by simpa [Value.ownBlock] using e
    rcases hlies with h5 | h5
    · exact h3 (by rw [h5, e2])
    · omega
  refine h _ w' ⟨Nat.le_trans hb h2.size, vs ++ [.slice a1 l1.length c1], by simpa using h1, fun i hi => ?_⟩ (below_of_grown hown hb h2)
  by_cases hlt : i < ls.length
  · obtain ⟨A, c, e1, e2, e3⟩ := hc i hlt
    rw [List.getElem_append_left hlt]
    have hblt : ∀ ad, A = some ad → (ls[i] = [] ∨ ad.block < w.heap.size) := by
      intro ad had
      rcases e2.form with ⟨_, h0⟩ | ⟨b, off, c', hv, hl4, _⟩
      · exact .inl h0
      · right; subst had; cases hv; exact hl4
    refine ⟨A, c, by rw [List.getElem?_append_left (by omega)]; exact e1, items_far e2 h2.size (fun ad had hlt2 => h2.block _ hlt2 (e3 ad had)), fun ad had => ?_⟩
    rcases e2.form with ⟨h0, _⟩ | ⟨b, off, c', hv, hl4, _⟩
    · subst had; cases h0
    · have hbl : ad.block < w.heap.size := by subst had; cases hv; exact hl4
      exact hnew ad (e3 ad had) hbl
  · have hi2 : i = ls.length := by simp at hi; omega
    subst hi2
    rw [List.getElem_append_right (Nat.le_refl _)]
    refine ⟨a1, c1, by rw [List.getElem?_append_right (by omega), hlen]; simp, ?_, fun ad had => ?_⟩
    · simpa using items_far I1 h2.size (fun ad had hlt2 => h2.block _ hlt2 (I2 ad had).1)
    · exact hnew ad (I2 ad had).1 (I2 ad had).2
end Go.Proofs.YtepinmeidjlmmaaDoor
