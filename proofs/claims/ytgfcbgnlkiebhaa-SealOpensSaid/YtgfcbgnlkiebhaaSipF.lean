/- The reference's round, on an array by value. -/
import Derived.Test.YtgfcbgnlkiebhaaSipE
namespace Go.Proofs.Ytgfcbgnlkiebhaa
open Go.RowKit
set_option maxRecDepth 100000
attribute [local go_sem] val_xor val_or val_add

theorem rotR_still (x : BitVec 64) (k : Int) (hk : rotOk k) (w : World) :
    Calls Try.prog 36 #[.int .u64 (val x), .int .u64 k] w fun e w'' => e = .returned (.int .u64 (val (rotI x k))) ∧ w'' = w :=
  (rotR_any x k hk w).mono fun _ _ h => ⟨h.1, h.2.symm⟩

/-- the four words of s as values -/
def cs4 (s : S4) : Array Value := #[.int .u64 (val s.a), .int .u64 (val s.b), .int .u64 (val s.c), .int .u64 (val s.d)]
/-- block b is an array with the words of s -/
def Ar (w : World) (b : Nat) (s : S4) : Prop := w.heap[b]? = some (.cells (cs4 s) 54 (0, 0))
theorem Ar.cells {w : World} {b : Nat} {s : S4} (h : Ar w b s) : w.cell? ⟨b, 0, none⟩ = some (.int .u64 (val s.a)) ∧ w.cell? ⟨b, 1, none⟩ = some (.int .u64 (val s.b)) ∧ w.cell? ⟨b, 2, none⟩ = some (.int .u64 (val s.c)) ∧ w.cell? ⟨b, 3, none⟩ = some (.int .u64 (val s.d)) := by
  unfold Ar cs4 at h
  simp [World.cell?, h]
theorem Ar.free {w : World} {b : Nat} {s : S4} (h : Ar w b s) (i : Nat) : w.frozen? ⟨b, i, none⟩ = false := by
  unfold Ar at h
  simp [World.frozen?, h]
theorem Ar.drew {w : World} {b : Nat} {s : S4} (h : Ar w b s) : Ar w.drew b s := h
theorem Ar.lt {w : World} {b : Nat} {s : S4} (h : Ar w b s) : b < w.heap.size := by
  rcases Nat.lt_or_ge b w.heap.size with h1 | h1
  · exact h1
  · unfold Ar at h; rw [Array.getElem?_eq_none h1] at h; cases h
theorem Ar.set0 {w : World} {b : Nat} {s : S4} (h : Ar w b s) (x : BitVec 64) : Ar (w.setCell ⟨b, 0, none⟩ (.int .u64 (val x))) b ⟨x, s.b, s.c, s.d⟩ := by
  unfold Ar cs4 at h ⊢; simp [World.setCell, Array.getElem?_modify, h]
theorem Ar.set1 {w : World} {b : Nat} {s : S4} (h : Ar w b s) (x : BitVec 64) : Ar (w.setCell ⟨b, 1, none⟩ (.int .u64 (val x))) b ⟨s.a, x, s.c, s.d⟩ := by
  unfold Ar cs4 at h ⊢; simp [World.setCell, Array.getElem?_modify, h]
theorem Ar.set2 {w : World} {b : Nat} {s : S4} (h : Ar w b s) (x : BitVec 64) : Ar (w.setCell ⟨b, 2, none⟩ (.int .u64 (val x))) b ⟨s.a, s.b, x, s.d⟩ := by
  unfold Ar cs4 at h ⊢; simp [World.setCell, Array.getElem?_modify, h]
theorem Ar.set3 {w : World} {b : Nat} {s : S4} (h : Ar w b s) (x : BitVec 64) : Ar (w.setCell ⟨b, 3, none⟩ (.int .u64 (val x))) b ⟨s.a, s.b, s.c, x⟩ := by
  unfold Ar cs4 at h ⊢; simp [World.setCell, Array.getElem?_modify, h]
theorem Ar.new (w : World) (s : S4) : Ar (w.alloc (.cells #[.int .u64 (val s.a), .int .u64 (val s.b), .int .u64 (val s.c), .int .u64 (val s.d)] 54)) w.heap.size s := heap_alloc_new w _
theorem Ar.more {w : World} {b : Nat} {s : S4} (h : Ar w b s) (o : Obj) : Ar (w.alloc o) b s := (Below.heap_alloc w o b h.lt).trans h
theorem Ar.far {w w' : World} {b g : Nat} {s : S4} (h : Ar w g s) (ho : Only b w w') (hne : g ≠ b) : Ar w' g s := (ho.block g hne).trans h
theorem val_zero : val (0#64) = 0 := rfl
theorem arr_world {P : Program} {code : Code} {Q : Exit → Act → World → Prop} {a : Act} {W : World} {b : Nat} {s : S4} {w0 : World} (hS : Ar W b s) (hO : Only b w0 W)
    (h : ∀ W', Ar W' b s → Only b w0 W' → Code.wp P code Q a W') : Code.wp P code Q a W := h W hS hO

theorem two_world {P : Program} {code : Code} {Q : Exit → Act → World → Prop} {a : Act} {w : World} {p q r t : BitVec 64}
    (h : ∀ W, Ar W w.heap.size ⟨p, q, r, t⟩ → Ar W (w.heap.size + 1) ⟨0#64, 0#64, 0#64, 0#64⟩ → Below w.heap.size w W → Code.wp P code Q a W) :
    Code.wp P code Q a ((w.alloc (.cells #[.int .u64 (val p), .int .u64 (val q), .int .u64 (val r), .int .u64 (val t)] 54)).alloc (.cells #[.int .u64 0, .int .u64 0, .int .u64 0, .int .u64 0] 54)) := by
  refine h _ ((Ar.new w ⟨p, q, r, t⟩).more _) ?_ (((Below.refl _ _).alloc (Nat.le_refl _) _).alloc (by simp) _)
  have := Ar.new (w.alloc (.cells #[.int .u64 (val p), .int .u64 (val q), .int .u64 (val r), .int .u64 (val t)] 54)) ⟨0#64, 0#64, 0#64, 0#64⟩
  have e : (w.alloc (.cells #[.int .u64 (val p), .int .u64 (val q), .int .u64 (val r), .int .u64 (val t)] 54)).heap.size = w.heap.size + 1 := by simp
  rw [e] at this
  exact this

set_option maxHeartbeats 2000000 in
theorem roundR_any (s : S4) (w : World) :
    Calls Try.prog 34 #[.agg #[.int .u64 (val s.a), .int .u64 (val s.b), .int .u64 (val s.c), .int .u64 (val s.d)]] w fun e w' =>
      e = .returned (.agg #[.int .u64 (val (sipRound s).a), .int .u64 (val (sipRound s).b), .int .u64 (val (sipRound s).c), .int .u64 (val (sipRound s).d)]) ∧ Below w.heap.size w w' := by
  obtain ⟨p, q, r, t⟩ := s
  dsimp only
  go_enter Try.func34, Try.ntmps34
  go_wp2
  refine two_world ?_
  intro W hs hz hb
  have HZ := Lib.hid hz
  clear hz
  have HO0 := Only.refl w.heap.size W
  obtain ⟨c0, c1, c2, c3⟩ := hs.cells
  have f0 := hs.free 0
  have f1 := hs.free 1
  have f2 := hs.free 2
  have f3 := hs.free 3
  have HS0 := Lib.hid hs
  clear hs
  dsimp only at c0 c1 c2 c3
  refine wp_region_still_tail 7 (by kernel_rfl) (by kernel_rfl) ?_
  simp only [List.take_succ_cons, List.take_zero, List.drop_succ_cons, List.drop_zero]
  still_step
  still_step
  still_call (rotR_still _ _ (by unfold rotOk; decide) _)
  still_step
  still_step
  still_step
  still_step
  refine wpStill_nil ?_
  change wpList _ _ _ _ _ (World.drew _)
  go_wp2_with (go_at_call 36; refine ((rotR_any _ _ (by unfold rotOk; decide) _).mono ?_); rintro e w' ⟨rfl, rfl⟩)
  refine arr_world (((HS0.out.set1 _).set0 _).set2 _).drew (((HO0.set_ _ _).set_ _ _).set_ _ _).drew ?_
  clear c0 c1 c2 c3 f0 f1 f2 f3
  intro w1 hs HO1
  obtain ⟨c0, c1, c2, c3⟩ := hs.cells
  have f0 := hs.free 0
  have f1 := hs.free 1
  have f2 := hs.free 2
  have f3 := hs.free 3
  have HS1 := Lib.hid hs
  clear hs
  dsimp only at c0 c1 c2 c3
  refine wp_region_still_tail 7 (by kernel_rfl) (by kernel_rfl) ?_
  simp only [List.take_succ_cons, List.take_zero, List.drop_succ_cons, List.drop_zero]
  still_step
  still_step
  still_call (rotR_still _ _ (by unfold rotOk; decide) _)
  still_step
  still_step
  still_step
  still_step
  refine wpStill_nil ?_
  change wpList _ _ _ _ _ (World.drew _)
  go_wp2_with (go_at_call 36; refine ((rotR_any _ _ (by unfold rotOk; decide) _).mono ?_); rintro e w' ⟨rfl, rfl⟩)
  refine arr_world ((HS1.out.set3 _).set0 _).drew ((HO1.set_ _ _).set_ _ _).drew ?_
  clear c0 c1 c2 c3 f0 f1 f2 f3
  intro w2 hs HO2
  obtain ⟨c0, c1, c2, c3⟩ := hs.cells
  have f0 := hs.free 0
  have f1 := hs.free 1
  have f2 := hs.free 2
  have f3 := hs.free 3
  have HS2 := Lib.hid hs
  clear hs
  dsimp only at c0 c1 c2 c3
  refine wp_region_still_tail 7 (by kernel_rfl) (by kernel_rfl) ?_
  simp only [List.take_succ_cons, List.take_zero, List.drop_succ_cons, List.drop_zero]
  still_step
  still_step
  still_call (rotR_still _ _ (by unfold rotOk; decide) _)
  still_step
  still_step
  still_step
  still_step
  refine wpStill_nil ?_
  change wpList _ _ _ _ _ (World.drew _)
  go_wp2_with (go_at_call 36; refine ((rotR_any _ _ (by unfold rotOk; decide) _).mono ?_); rintro e w' ⟨rfl, rfl⟩)
  refine arr_world ((HS2.out.set3 _).set2 _).drew ((HO2.set_ _ _).set_ _ _).drew ?_
  clear c0 c1 c2 c3 f0 f1 f2 f3
  intro w3 hs HO3
  obtain ⟨c0, c1, c2, c3⟩ := hs.cells
  have f0 := hs.free 0
  have f1 := hs.free 1
  have f2 := hs.free 2
  have f3 := hs.free 3
  have HS3 := Lib.hid hs
  clear hs
  dsimp only at c0 c1 c2 c3
  have hz3 := HZ.out.far HO3 (by omega)
  obtain ⟨z0, z1, z2, z3⟩ := hz3.cells
  have y0 := hz3.free 0
  have y1 := hz3.free 1
  have y2 := hz3.free 2
  have y3 := hz3.free 3
  have hs3 := HO3.size
  have hlt3 := hz3.lt
  have HZ3 := Lib.hid hz3
  clear hz3
  refine wp_region_still_tail 7 (by kernel_rfl) (by kernel_rfl) ?_
  simp only [List.take_succ_cons, List.take_zero, List.drop_succ_cons, List.drop_zero]
  still_step
  still_step
  still_call (rotR_still _ _ (by unfold rotOk; decide) _)
  still_step
  still_step
  still_step
  still_step
  refine wpStill_nil ?_
  change wpList _ _ _ _ _ (World.drew _)
  go_wp2_with (go_at_call 36; refine ((rotR_any _ _ (by unfold rotOk; decide) _).mono ?_); rintro e w' ⟨rfl, rfl⟩)
  have hbw := hb.trans (HO3.below (Nat.le_refl _))
  have n1 : w.heap.size ≤ w.heap.size + 1 := Nat.le_succ _
  refine bodyPost_ret (v := .agg #[.int .u64 (val (sipRound ⟨p, q, r, t⟩).a), .int .u64 (val (sipRound ⟨p, q, r, t⟩).b), .int .u64 (val (sipRound ⟨p, q, r, t⟩).c), .int .u64 (val (sipRound ⟨p, q, r, t⟩).d)]) ?_ rfl ⟨rfl, ?_⟩
  · simp [results, Try.results34, go_sem, z0, z1, z2, z3]
    exact ⟨rfl, rfl, rfl, rfl⟩
  · exact ((((((hbw.setCell (Nat.le_refl _) _).setCell (Nat.le_refl _) _).setCell n1 _).setCell n1 _).setCell n1 _).setCell n1 _).drew
end Go.Proofs.Ytgfcbgnlkiebhaa
