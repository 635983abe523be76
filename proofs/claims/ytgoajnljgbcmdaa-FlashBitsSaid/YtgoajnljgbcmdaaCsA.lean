/- Arrays of cells, rows of bytes that are stored into: what every stage uses (a seat that holds OtA has the first part already). -/
import Derived.Test.YtgoajnljgbcmdaaSipR
import Derived.Test.YtgoajnljgbcmdaaHs
namespace Go.Proofs.Ytgoajnljgbcmdaa
open Go.RowKit
set_option maxRecDepth 100000

/-- block g is an array with the cells vs -/
def Cs (w : World) (g : Nat) (t : TypeId) (vs : List Value) : Prop := w.heap[g]? = some (.cells vs.toArray t (0, 0))
theorem Cs.cell {w : World} {g : Nat} {t : TypeId} {vs : List Value} (h : Cs w g t vs) (i : Nat) : w.cell? ⟨g, i, none⟩ = vs[i]? := by
  unfold Cs at h
  simp [World.cell?, h]
theorem Cs.free {w : World} {g : Nat} {t : TypeId} {vs : List Value} (h : Cs w g t vs) (i : Nat) : w.frozen? ⟨g, i, none⟩ = false := by
  unfold Cs at h
  simp [World.frozen?, h]
theorem Cs.lt {w : World} {g : Nat} {t : TypeId} {vs : List Value} (h : Cs w g t vs) : g < w.heap.size := by
  rcases Nat.lt_or_ge g w.heap.size with h1 | h1
  · exact h1
  · unfold Cs at h; rw [Array.getElem?_eq_none h1] at h; cases h
theorem Cs.set_ {w : World} {g : Nat} {t : TypeId} {vs : List Value} (h : Cs w g t vs) (i : Nat) (v : Value) : Cs (w.setCell ⟨g, i, none⟩ v) g t (vs.set i v) := by
  unfold Cs at h ⊢
  simp [World.setCell, Array.getElem?_modify, h]
theorem Cs.below {w w' : World} {g B : Nat} {t : TypeId} {vs : List Value} (h : Cs w g t vs) (hb : Below B w w') (hg : g < B) : Cs w' g t vs := (hb.block g hg).trans h
theorem Cs.new (w : World) (t : TypeId) (vs : List Value) : Cs (w.alloc (.cells vs.toArray t)) w.heap.size t vs := heap_alloc_new w _
theorem Cs.far_set {w : World} {g g' : Nat} {t : TypeId} {vs : List Value} (h : Cs w g t vs) (i : Nat) (v : Value) (hne : g ≠ g') : Cs (w.setCell ⟨g', i, none⟩ v) g t vs :=
  (Below.heap_setCell w ⟨g', i, none⟩ v g hne).trans h
theorem Cs.drew {w : World} {g : Nat} {t : TypeId} {vs : List Value} (h : Cs w g t vs) : Cs w.drew g t vs := h

theorem Cs.setRow {w : World} {g : Nat} {t : TypeId} {vs : List Value} (h : Cs w g t vs) (us : List Value) : Cs (w.setRow g us.toArray) g t us := setRow_heap w g _ _ t _ h
theorem heap_setRow (w : World) (g : Nat) (c : Array Value) (k : Nat) (h : k ≠ g) : (w.setRow g c).heap[k]? = w.heap[k]? := by
  simp only [World.setRow, Array.getElem?_modify]
  rw [if_neg (fun e => h e.symm)]
theorem Cs.other {w : World} {g g' : Nat} {t : TypeId} {vs : List Value} (h : Cs w g t vs) (c : Array Value) (hne : g ≠ g') : Cs (w.setRow g' c) g t vs := (heap_setRow w g' c g hne).trans h
theorem below_setRow {B : Nat} {u w : World} (hb : Below B u w) (g : Nat) (c : Array Value) (hg : B ≤ g) : Below B u (w.setRow g c) :=
  hb.trans ⟨rfl, rfl, rfl, by simp [World.setRow], fun k hk => heap_setRow w g c k (by omega)⟩

theorem Cs.new2 (w : World) (o : Obj) (t : TypeId) (vs : List Value) : Cs ((w.alloc o).alloc (.cells vs.toArray t)) (w.heap.size + 1) t vs := by
  have := Cs.new (w.alloc o) t vs
  have e : (w.alloc o).heap.size = w.heap.size + 1 := by simp
  rw [e] at this
  exact this
theorem Cs.grow {w : World} {g : Nat} {t : TypeId} {vs : List Value} (h : Cs w g t vs) (o : Obj) : Cs (w.alloc o) g t vs := h.below ((Below.refl _ w).alloc (Nat.le_refl _) o) h.lt
theorem row_lit {base : Nat} (w : World) (z : Int) (hb : base ≤ w.heap.size) : Row (w.alloc (.cells #[.int .u8 z] 5)) base (.slice (some ⟨w.heap.size, 0, none⟩) 1 1) 1 [z] :=
  Row.of_new (heap_alloc_new w _) (fun j hj => by obtain rfl : j = 0 := by omega
                                                  rfl) rfl (Nat.le_refl _) (by unfold maxLen; omega) rfl hb
theorem Row.put {w : World} {base g cap n : Nat} {zs : List Int} (h : Row w base (.slice (some ⟨g, 0, none⟩) n cap) n zs) (j : Nat) (hj : j < n) (z : Int) : Row (w.setCell ⟨g, j, none⟩ (.int .u8 z)) base (.slice (some ⟨g, 0, none⟩) n cap) n (zs.set j z) := by
  have hl := h.1
  refine ⟨by rw [List.length_set]; exact hl, ?_⟩
  rcases h.2 with ⟨hv, _⟩ | ⟨g', cap', hv, hg, hlt, h1, hm, hc, hf⟩
  · cases hv
  · cases hv
    refine .inr ⟨g, cap, rfl, hg, by simpa using hlt, h1, hm, fun i hi => ?_, fun i hi => ?_⟩
    · by_cases he : i = j
      · subst he
        rw [World.cell?_setCell_same' _ _ _ (hf i (by omega)).1]
        simp [List.getD, hl, hi]
      · rw [World.cell?_setCell_other _ _ _ _ (fun e => he (by cases e; rfl)), hc i hi]
        simp [List.getD, show ¬ j = i by omega]
    · rw [World.frozen?_setCell]
      refine ⟨?_, (hf i hi).2⟩
      by_cases he : i = j
      · subst he
        rw [World.cell?_setCell_same' _ _ _ (hf i hi).1]
        rfl
      · rw [World.cell?_setCell_other _ _ _ _ (fun e => he (by cases e; rfl))]
        exact (hf i hi).1
theorem Row.far {w : World} {base n p : Nat} {v : Value} {zs : List Int} (h : Row w base v n zs) (j : Nat) (u : Value) (hp : p < base) : Row (w.setCell ⟨p, j, none⟩ u) base v n zs := by
  refine ⟨h.1, ?_⟩
  rcases h.2 with h0 | ⟨g, cap, hv, hg, hlt, h1, hm, hc, hf⟩
  · exact .inl h0
  · have hne : ∀ i, (⟨p, j, none⟩ : Addr) ≠ ⟨g, i, none⟩ := fun i e => by
      cases e
      omega
    refine .inr ⟨g, cap, hv, hg, by simpa using hlt, h1, hm, fun i hi => ?_, fun i hi => ?_⟩
    · rw [World.cell?_setCell_other _ _ _ _ (hne i)]
      exact hc i hi
    · rw [World.frozen?_setCell, World.cell?_setCell_other _ _ _ _ (hne i)]
      exact hf i hi
theorem Row.slot {w : World} {base n : Nat} {v : Value} {zs : List Int} (h : Row w base v n zs) (hn : 0 < n) : ∃ g cap, v = .slice (some ⟨g, 0, none⟩) n cap ∧ base ≤ g ∧ n ≤ cap ∧ cap ≤ 9223372036854775807 ∧ (∀ j, j < n → w.cell? ⟨g, j, none⟩ = some (.int .u8 (zs.getD j 0))) ∧ (∀ j, j < n → w.frozen? ⟨g, j, none⟩ = false) := by
  rcases h.2 with ⟨_, h0⟩ | ⟨g, cap, hv, hg, _, h1, hm, hc, hf⟩
  · omega
  · exact ⟨g, cap, hv, hg, h1, by unfold maxLen at hm; omega, hc, fun j hj => (hf j (by omega)).2⟩
theorem wrap_nat (m : Nat) (h : m ≤ 1000000000000) : wrap64 (m : Int) = (m : Int) := by unfold wrap64; omega
/-- bytes stay when a cell that holds no byte is stored into -/
theorem Bytes.setCell {w : World} {A : Option Addr} {n : Nat} {zs : List Int} (h : Bytes w A n zs) (p : Addr) (u old : Value) (ho : w.cell? p = some old) (hne : ∀ z, old ≠ .int .u8 z) : Bytes (w.setCell p u) A n zs :=
  ⟨h.len, h.rng, fun i hi => by
    obtain ⟨a, e, hc⟩ := h.at_ i hi
    refine ⟨a, e, ?_⟩
    have hp : p ≠ a.add i := fun e2 => by
      rw [e2, hc] at ho
      cases ho
      exact hne _ rfl
    rw [World.cell?_setCell_other _ _ _ _ hp]
    exact hc⟩
/-- .. so when a flash is stored into a cell -/
theorem Bytes.setTwo {w : World} {A : Option Addr} {n g : Nat} {zs : List Int} (h : Bytes w A n zs) (u v old old2 : Value) (ho : w.cell? ⟨g, 0, none⟩ = some old) (ho2 : w.cell? ⟨g, 1, none⟩ = some old2) (hne : ∀ z, old ≠ .int .u8 z) (hne2 : ∀ z, old2 ≠ .int .u8 z) :
    Bytes ((w.setCell ⟨g, 0, none⟩ u).setCell ⟨g, 1, none⟩ v) A n zs :=
  (h.setCell _ u old ho hne).setCell _ v old2 ((World.cell?_setCell_other _ _ _ _ (by simp)).trans ho2) hne2
end Go.Proofs.Ytgoajnljgbcmdaa
