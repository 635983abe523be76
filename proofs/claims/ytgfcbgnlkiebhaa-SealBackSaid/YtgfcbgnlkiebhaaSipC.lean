/- One round of SipHash, on the state in memory. -/
import Derived.Test.YtgfcbgnlkiebhaaSipB
import Derived.StillTailTactics
import Derived.Lib.Hide
import Derived.Deep.QuietTactic
import Derived.BigQuiet
namespace Go.Proofs.Ytgfcbgnlkiebhaa
open Go.RowKit
set_option maxRecDepth 100000
attribute [local go_sem] val_xor val_or val_add

/-- nothing but block b has changed -/
structure Only (b : Nat) (w w' : World) : Prop where
  os : w'.os = w.os
  tape : w'.tape = w.tape
  output : w'.output = w.output
  size : w'.heap.size = w.heap.size
  block : ∀ k, k ≠ b → w'.heap[k]? = w.heap[k]?
theorem Only.refl (b : Nat) (w : World) : Only b w w := ⟨rfl, rfl, rfl, rfl, fun _ _ => rfl⟩
theorem Only.trans {b : Nat} {u v w : World} (h : Only b u v) (k : Only b v w) : Only b u w :=
  ⟨k.os.trans h.os, k.tape.trans h.tape, k.output.trans h.output, k.size.trans h.size, fun i hi => (k.block i hi).trans (h.block i hi)⟩
theorem Only.drew {b : Nat} {u w : World} (h : Only b u w) : Only b u w.drew := ⟨h.os, h.tape, h.output, h.size, h.block⟩
theorem Only.drewN {b : Nat} {u w : World} (h : Only b u w) (n : Nat) : Only b u (w.drewN n) := ⟨h.os, h.tape, h.output, h.size, h.block⟩
theorem Only.set_ {b : Nat} {u w : World} (h : Only b u w) (i : Nat) (v : Value) : Only b u (w.setCell ⟨b, i, none⟩ v) :=
  h.trans ⟨rfl, rfl, rfl, by simp [World.setCell], fun k hk => Below.heap_setCell w ⟨b, i, none⟩ v k hk⟩
theorem Only.below {b B : Nat} {w w' : World} (h : Only b w w') (hb : B ≤ b) : Below B w w' := by
  refine ⟨h.os, h.tape, h.output, by have := h.size; omega, fun k hk => h.block k (by omega)⟩

/-- block b holds the state s -/
def St (w : World) (b : Nat) (s : S4) : Prop := w.heap[b]? = some (.cells #[U s.a, U s.b, U s.c, U s.d] 50 (0, 0))

theorem St.cells {w : World} {b : Nat} {s : S4} (h : St w b s) : w.cell? ⟨b, 0, none⟩ = some (.int .u64 (val s.a)) ∧ w.cell? ⟨b, 1, none⟩ = some (.int .u64 (val s.b)) ∧ w.cell? ⟨b, 2, none⟩ = some (.int .u64 (val s.c)) ∧ w.cell? ⟨b, 3, none⟩ = some (.int .u64 (val s.d)) := by
  unfold St at h
  simp [World.cell?, h, U]
theorem St.free {w : World} {b : Nat} {s : S4} (h : St w b s) (i : Nat) : w.frozen? ⟨b, i, none⟩ = false := by
  unfold St at h
  simp [World.frozen?, h]
theorem St.drew {w : World} {b : Nat} {s : S4} (h : St w b s) : St w.drew b s := h
theorem St.lt {w : World} {b : Nat} {s : S4} (h : St w b s) : b < w.heap.size := by
  rcases Nat.lt_or_ge b w.heap.size with h1 | h1
  · exact h1
  · unfold St at h; rw [Array.getElem?_eq_none h1] at h; cases h
theorem St.set0 {w : World} {b : Nat} {s : S4} (h : St w b s) (x : BitVec 64) : St (w.setCell ⟨b, 0, none⟩ (.int .u64 (val x))) b ⟨x, s.b, s.c, s.d⟩ := by
  unfold St at h ⊢; simp [World.setCell, Array.getElem?_modify, h, U]
theorem St.set1 {w : World} {b : Nat} {s : S4} (h : St w b s) (x : BitVec 64) : St (w.setCell ⟨b, 1, none⟩ (.int .u64 (val x))) b ⟨s.a, x, s.c, s.d⟩ := by
  unfold St at h ⊢; simp [World.setCell, Array.getElem?_modify, h, U]
theorem St.set2 {w : World} {b : Nat} {s : S4} (h : St w b s) (x : BitVec 64) : St (w.setCell ⟨b, 2, none⟩ (.int .u64 (val x))) b ⟨s.a, s.b, x, s.d⟩ := by
  unfold St at h ⊢; simp [World.setCell, Array.getElem?_modify, h, U]
theorem St.set3 {w : World} {b : Nat} {s : S4} (h : St w b s) (x : BitVec 64) : St (w.setCell ⟨b, 3, none⟩ (.int .u64 (val x))) b ⟨s.a, s.b, s.c, x⟩ := by
  unfold St at h ⊢; simp [World.setCell, Array.getElem?_modify, h, U]

theorem step_world {P : Program} {code : Code} {Q : Exit → Act → World → Prop} {a : Act} {W : World} {b : Nat} {s : S4} {w0 : World} (hS : St W b s) (hO : Only b w0 W)
    (h : ∀ W', St W' b s → Only b w0 W' → Code.wp P code Q a W') : Code.wp P code Q a W := h W hS hO

set_option maxHeartbeats 1000000 in
theorem round_any (b : Nat) (s : S4) (w : World) (hs : St w b s) :
    Calls Try.prog 37 #[.pointer (some ⟨b, 0, none⟩)] w fun e w' => e = .returned (.tuple #[]) ∧ St w' b (sipRound s) ∧ Only b w w' := by
  obtain ⟨p, q, r, t⟩ := s
  have HO0 := Only.refl b w
  obtain ⟨c0, c1, c2, c3⟩ := hs.cells
  have f0 := hs.free 0
  have f1 := hs.free 1
  have f2 := hs.free 2
  have f3 := hs.free 3
  have HS0 := Lib.hid hs
  clear hs
  dsimp only at c0 c1 c2 c3
  go_enter Try.func37, Try.ntmps37
  go_wp2
  go_still_tail 11, (by kernel_rfl)
  change wpList _ _ _ _ _ (World.drew _)
  go_wp2_with (go_at_call 38; refine ((rot_any _ _ (by unfold rotOk; decide) _).mono ?_); rintro e w' ⟨rfl, rfl⟩)
  refine step_world ((HS0.out.set0 _).set1 _).drew ((HO0.set_ _ _).set_ _ _).drew ?_
  clear c0 c1 c2 c3 f0 f1 f2 f3
  intro w1 hs HO1
  obtain ⟨c0, c1, c2, c3⟩ := hs.cells
  have f0 := hs.free 0
  have f1 := hs.free 1
  have f2 := hs.free 2
  have f3 := hs.free 3
  have HS1 := Lib.hid hs
  clear hs
  dsimp only at c0 c1 c2 c3
  go_still_tail 11, (by kernel_rfl)
  change wpList _ _ _ _ _ (World.drew _)
  go_wp2_with (go_at_call 38; refine ((rot_any _ _ (by unfold rotOk; decide) _).mono ?_); rintro e w' ⟨rfl, rfl⟩)
  refine step_world ((HS1.out.set1 _).set0 _).drew ((HO1.set_ _ _).set_ _ _).drew ?_
  clear c0 c1 c2 c3 f0 f1 f2 f3
  intro w2 hs HO2
  obtain ⟨c0, c1, c2, c3⟩ := hs.cells
  have f0 := hs.free 0
  have f1 := hs.free 1
  have f2 := hs.free 2
  have f3 := hs.free 3
  have HS2 := Lib.hid hs
  clear hs
  dsimp only at c0 c1 c2 c3
  go_still_tail 11, (by kernel_rfl)
  change wpList _ _ _ _ _ (World.drew _)
  go_wp2_with (go_at_call 38; refine ((rot_any _ _ (by unfold rotOk; decide) _).mono ?_); rintro e w' ⟨rfl, rfl⟩)
  refine step_world ((HS2.out.set2 _).set3 _).drew ((HO2.set_ _ _).set_ _ _).drew ?_
  clear c0 c1 c2 c3 f0 f1 f2 f3
  intro w3 hs HO3
  obtain ⟨c0, c1, c2, c3⟩ := hs.cells
  have f0 := hs.free 0
  have f1 := hs.free 1
  have f2 := hs.free 2
  have f3 := hs.free 3
  have HS3 := Lib.hid hs
  clear hs
  dsimp only at c0 c1 c2 c3
  go_still_tail 11, (by kernel_rfl)
  change wpList _ _ _ _ _ (World.drew _)
  go_wp2_with (go_at_call 38; refine ((rot_any _ _ (by unfold rotOk; decide) _).mono ?_); rintro e w' ⟨rfl, rfl⟩)
  refine step_world (HS3.out.set3 _).drew (HO3.set_ _ _).drew ?_
  clear c0 c1 c2 c3 f0 f1 f2 f3
  intro w4 hs HO4
  obtain ⟨c0, c1, c2, c3⟩ := hs.cells
  have f0 := hs.free 0
  have f1 := hs.free 1
  have f2 := hs.free 2
  have f3 := hs.free 3
  have HS4 := Lib.hid hs
  clear hs
  dsimp only at c0 c1 c2 c3
  go_still_tail 11, (by kernel_rfl)
  change wpList _ _ _ _ _ (World.drew _)
  go_wp2_with (go_at_call 38; refine ((rot_any _ _ (by unfold rotOk; decide) _).mono ?_); rintro e w' ⟨rfl, rfl⟩)
  refine step_world ((HS4.out.set0 _).set3 _).drew ((HO4.set_ _ _).set_ _ _).drew ?_
  clear c0 c1 c2 c3 f0 f1 f2 f3
  intro w5 hs HO5
  obtain ⟨c0, c1, c2, c3⟩ := hs.cells
  have f0 := hs.free 0
  have f1 := hs.free 1
  have f2 := hs.free 2
  have f3 := hs.free 3
  have HS5 := Lib.hid hs
  clear hs
  dsimp only at c0 c1 c2 c3
  go_still_tail 11, (by kernel_rfl)
  change wpList _ _ _ _ _ (World.drew _)
  go_wp2_with (go_at_call 38; refine ((rot_any _ _ (by unfold rotOk; decide) _).mono ?_); rintro e w' ⟨rfl, rfl⟩)
  refine step_world (HS5.out.set3 _).drew (HO5.set_ _ _).drew ?_
  clear c0 c1 c2 c3 f0 f1 f2 f3
  intro w6 hs HO6
  obtain ⟨c0, c1, c2, c3⟩ := hs.cells
  have f0 := hs.free 0
  have f1 := hs.free 1
  have f2 := hs.free 2
  have f3 := hs.free 3
  have HS6 := Lib.hid hs
  clear hs
  dsimp only at c0 c1 c2 c3
  go_still_tail 11, (by kernel_rfl)
  change wpList _ _ _ _ _ (World.drew _)
  go_wp2_with (go_at_call 38; refine ((rot_any _ _ (by unfold rotOk; decide) _).mono ?_); rintro e w' ⟨rfl, rfl⟩)
  refine step_world ((HS6.out.set2 _).set1 _).drew ((HO6.set_ _ _).set_ _ _).drew ?_
  clear c0 c1 c2 c3 f0 f1 f2 f3
  intro w7 hs HO7
  obtain ⟨c0, c1, c2, c3⟩ := hs.cells
  have f0 := hs.free 0
  have f1 := hs.free 1
  have f2 := hs.free 2
  have f3 := hs.free 3
  have HS7 := Lib.hid hs
  clear hs
  dsimp only at c0 c1 c2 c3
  go_still_tail 11, (by kernel_rfl)
  change wpList _ _ _ _ _ (World.drew _)
  go_wp2_with (go_at_call 38; refine ((rot_any _ _ (by unfold rotOk; decide) _).mono ?_); rintro e w' ⟨rfl, rfl⟩)
  go_end0
  exact ⟨rfl, ((HS7.out.set1 _).set2 _).drew, ((HO7.set_ _ _).set_ _ _).drew⟩
end Go.Proofs.Ytgfcbgnlkiebhaa
