import Derived.WalkKit
import Derived.WalkSpells
import Derived.WalkLawsBesides
import Derived.Lib.Hide
namespace Go.Proofs.YtepinmeidjlmmaaDoor
open Go.RowKit

/-- Apart from blocks of cells of element type e, and new blocks, nothing has changed. -/
structure KeptT (e : TypeId) (w w' : World) : Prop where
  os : w'.os = w.os
  tape : w'.tape = w.tape
  output : w'.output = w.output
  size : w.heap.size ≤ w'.heap.size
  block : ∀ k, k < w.heap.size → (∀ cur fr, w.heap[k]? ≠ some (.cells cur e fr)) → w'.heap[k]? = w.heap[k]?

theorem KeptT.refl (e : TypeId) (w : World) : KeptT e w w := ⟨rfl, rfl, rfl, Nat.le_refl _, fun _ _ _ => rfl⟩
theorem KeptT.trans {e : TypeId} {a b c : World} (h : KeptT e a b) (k : KeptT e b c) : KeptT e a c :=
  ⟨k.os.trans h.os, k.tape.trans h.tape, k.output.trans h.output, Nat.le_trans h.size k.size, fun i hi hn => by
    have h1 := h.block i hi hn
    rw [k.block i (Nat.lt_of_lt_of_le hi h.size) (by rw [h1]; exact hn), h1]⟩
theorem KeptT.of_below {e : TypeId} {w w' : World} (h : Below w.heap.size w w') : KeptT e w w' := ⟨h.os, h.tape, h.output, h.size, fun k hk _ => h.block k hk⟩
theorem KeptT.alloc {e : TypeId} {a w : World} (h : KeptT e a w) (o : Obj) : KeptT e a (w.alloc o) := h.trans (.of_below ((Below.refl _ w).alloc (Nat.le_refl _) o))
theorem KeptT.drew {e : TypeId} {a w : World} (h : KeptT e a w) : KeptT e a w.drew := h.trans (.of_below (Below.refl _ w).drew)
theorem KeptT.drewN {e : TypeId} {a w : World} (h : KeptT e a w) (n : Nat) : KeptT e a (w.drewN n) := h.trans (.of_below (below_drewN (Below.refl _ w) n))
theorem KeptT.grown {e : TypeId} {w w' : World} {base size n : Nat} {v : Value} {xs : List Value} (hown : w.ownsRow base e size v n xs) (hg : w.grownBy w' v.ownBlock) : KeptT e w w' :=
  ⟨hg.os, hg.tape, hg.output, hg.size, fun k hk hn => hg.block k hk (fun he => by
    obtain ⟨_, h2⟩ := hown
    rcases h2 with ⟨h0, _⟩ | ⟨g, cap, cur, hv, _, hh, _⟩
    · rw [h0] at he; cases he
    · rw [hv] at he; cases he; exact hn _ _ hh)⟩
/-- a block of another element type is as it was -/
theorem KeptT.other {e t : TypeId} {w w' : World} (h : KeptT e w w') {k : Nat} {cs : Array Value} {fr : Nat × Nat} (hk : w.heap[k]? = some (.cells cs t fr)) (ht : t ≠ e) : w'.heap[k]? = some (.cells cs t fr) := by
  have hlt : k < w.heap.size := by
    rcases Nat.lt_or_ge k w.heap.size with h | h
    · exact h
    · rw [Array.getElem?_eq_none h] at hk; cases hk
  rw [h.block k hlt (by rw [hk]; intro cur f he; cases he; exact ht rfl), hk]
theorem below_of_grown {base e size n : Nat} {w w' : World} {v : Value} {xs : List Value} (hown : w.ownsRow base e size v n xs) (hb : base ≤ w.heap.size) (hg : w.grownBy w' v.ownBlock) : Below base w w' :=
  (Below.refl base w).grown hg hb fun k hk => (hown.lt k hk).1
theorem heap_new (w : World) (o : Obj) : (w.alloc o).heap[w.heap.size]? = some o := by
  show (w.heap.push o)[w.heap.size]? = _
  simp
theorem heap_new2 (w : World) (o o2 : Obj) : ((w.alloc o).alloc o2).heap[w.heap.size]? = some o := by
  rw [Below.heap_alloc _ _ _ (by simp)]; exact heap_new w o
theorem cell_of_block {w : World} {k j : Nat} {cs : Array Value} {t : TypeId} {fr : Nat × Nat} {v : Value} (h : w.heap[k]? = some (.cells cs t fr)) (hj : cs[j]? = some v) : w.cell? ⟨k, j, none⟩ = some v := by
  simp [World.cell?, h, hj]
/-- the box of an item -/
def itemCs (k n : Int) (d : ByteArray) : Array Value := #[.int .i64 k, .int .u64 n, .string d]
theorem kept_item {e : TypeId} {W w' : World} (hK : KeptT e W w') {B : Nat} {k n : Int} {d : ByteArray} {t : TypeId} (ht : t ≠ e) (hb : W.heap[B]? = some (.cells (itemCs k n d) t (0, 0))) :
    w'.heap[B]? = some (.cells (itemCs k n d) t (0, 0)) ∧ w'.cell? ⟨B, 0, none⟩ = some (.int .i64 k) ∧ w'.cell? ⟨B, 1, none⟩ = some (.int .u64 n) ∧ w'.cell? ⟨B, 2, none⟩ = some (.string d) := by
  have h := hK.other hb ht
  exact ⟨h, cell_of_block h rfl, cell_of_block h rfl, cell_of_block h rfl⟩
end Go.Proofs.YtepinmeidjlmmaaDoor
