import Derived.Test.YtepinmeidjlmmaaDoorB1
namespace Go.Proofs.YtepinmeidjlmmaaDoor
open Go.RowKit

set_option maxRecDepth 100000 in
set_option maxHeartbeats 1000000 in
theorem take_no (p g o N cap at' n : Nat) (w : World) (h2 : w.cell? ⟨p, 2, none⟩ = some (.slice (some ⟨g, o, none⟩) N cap)) (h3 : w.cell? ⟨p, 3, none⟩ = some (.int .i64 at')) (hat : at' ≤ N) (hN : N ≤ 1000000000000) (hn : N < at' + n) :
    Calls Tryd.prog 66 #[.pointer (some ⟨p, 0, none⟩), .int .u64 n] w fun e w' => e = .returned (.tuple #[.slice none 0 0, .bool false]) ∧ ∃ m, w.drewN m = w' := by
  have k1 : ((N : Int) - (at' : Int)) < (n : Int) := by omega
  go_enter Tryd.func66, Tryd.ntmps66
  go_wp2_with fail
  go_quiet (fail)
  go_wp2
  go_ret2
  exact ⟨rfl, _, rfl⟩

set_option maxRecDepth 100000 in
set_option maxHeartbeats 1000000 in
theorem take_yes (p g o N cap at' n : Nat) (w : World) (h2 : w.cell? ⟨p, 2, none⟩ = some (.slice (some ⟨g, o, none⟩) N cap)) (h3 : w.cell? ⟨p, 3, none⟩ = some (.int .i64 at')) (hf : w.frozen? ⟨p, 3, none⟩ = false) (hcap : N ≤ cap) (hN : N ≤ 1000000000000) (hn : at' + n ≤ N) (hn1 : 1 ≤ n) :
    Calls Tryd.prog 66 #[.pointer (some ⟨p, 0, none⟩), .int .u64 n] w fun e w' => e = .returned (.tuple #[.slice (some ⟨g, o + at', none⟩) n (cap - at'), .bool true]) ∧ ∃ m, (w.drewN m).setCell ⟨p, 3, none⟩ (.int .i64 ((at' + n : Nat) : Int)) = w' := by
  have k1 : ¬ ((N : Int) - (at' : Int)) < (n : Int) := by omega
  have k2 : (at' : Int) + (n : Int) ≤ (cap : Int) := by omega
  have k3 : ¬ cap = at' := by omega
  go_enter Tryd.func66, Tryd.ntmps66
  go_wp2_with fail
  go_quiet (fail)
  go_wp2_with fail
  go_quiet (fail)
  go_wp2
  go_ret2
  refine ⟨?_, _, by rw [Int.natCast_add]⟩
  show Ending.returned (.tuple #[.slice (some ⟨g, o + at', none⟩) (at' + n - at') (cap - at'), .bool true]) = _
  rw [Nat.add_sub_cancel_left]

/-- what reading changes: the position -/
structure RF (p : Nat) (w w' : World) : Prop where
  os : w'.os = w.os
  tape : w'.tape = w.tape
  output : w'.output = w.output
  size : w.heap.size ≤ w'.heap.size
  block : ∀ k, k < w.heap.size → k ≠ p → w'.heap[k]? = w.heap[k]?
  cell : ∀ j, j ≠ 3 → w'.cell? ⟨p, j, none⟩ = w.cell? ⟨p, j, none⟩
  frz : ∀ j, w'.frozen? ⟨p, j, none⟩ = w.frozen? ⟨p, j, none⟩
theorem RF.refl (p : Nat) (w : World) : RF p w w := ⟨rfl, rfl, rfl, Nat.le_refl _, fun _ _ _ => rfl, fun _ _ => rfl, fun _ => rfl⟩
theorem RF.trans {p : Nat} {w1 w2 w3 : World} (h : RF p w1 w2) (k : RF p w2 w3) : RF p w1 w3 :=
  ⟨k.os.trans h.os, k.tape.trans h.tape, k.output.trans h.output, Nat.le_trans h.size k.size, fun i hi hp => (k.block i (Nat.lt_of_lt_of_le hi h.size) hp).trans (h.block i hi hp), fun j hj => (k.cell j hj).trans (h.cell j hj), fun j => (k.frz j).trans (h.frz j)⟩
theorem RF.pos (w : World) (p m : Nat) (u : Value) : RF p w ((w.drewN m).setCell ⟨p, 3, none⟩ u) :=
  ⟨rfl, rfl, rfl, by simp, fun k _ hk => heap_setCell_other (w.drewN m) _ k u hk, fun j hj => World.cell?_setCell_other (w.drewN m) _ _ _ (by simp <;> omega), fun j => World.frozen?_setCell (w.drewN m) _ _ _⟩
theorem RF.below {p : Nat} {w w' : World} (h : RF p w w') (hp : p ≤ w.heap.size) : Below p w w' := ⟨h.os, h.tape, h.output, h.size, fun k hk => h.block k (by omega) (by omega)⟩
theorem RF.cellAt {p : Nat} {w w' : World} (h : RF p w w') {b j : Nat} (hb : b < w.heap.size) (hp : b ≠ p) : w'.cell? ⟨b, j, none⟩ = w.cell? ⟨b, j, none⟩ := World.cell?_of_block (h.block b hb hp)
theorem RF.frozenAt {p : Nat} {w w' : World} (h : RF p w w') {b j : Nat} (hb : b < w.heap.size) (hp : b ≠ p) : w'.frozen? ⟨b, j, none⟩ = w.frozen? ⟨b, j, none⟩ := World.frozen?_of_block (h.block b hb hp)

/-- a reader at its input: not its nesting -/
structure RdAt (w : World) (p g o N cap at' : Nat) : Prop where
  inp : w.cell? ⟨p, 2, none⟩ = some (.slice (some ⟨g, o, none⟩) N cap)
  pos : w.cell? ⟨p, 3, none⟩ = some (.int .i64 at')
  fr : w.frozen? ⟨p, 3, none⟩ = false
  hcap : N ≤ cap
  hN : N ≤ 1000000000000
  hat : at' ≤ N

theorem or0 (x : Int) (h0 : 0 ≤ x) (h1 : x < 24) : bits BinOp.or IntKind.u64 0 x = x := by
  have key : ∀ a : Fin 24, bits BinOp.or IntKind.u64 0 ((a.val : Nat) : Int) = ((a.val : Nat) : Int) := by decide +kernel
  have := key ⟨x.toNat, by omega⟩
  simpa [Int.toNat_of_nonneg h0] using this

set_option maxRecDepth 100000 in
set_option maxHeartbeats 1000000 in
/-- an argument of one byte that is too small for this form -/
theorem wide1_bad (p g o N cap at' : Nat) (x : Int) (w : World) (h : RdAt w p g o N cap at') (hn : at' + 1 ≤ N) (hgp : g ≠ p) (hx : w.cell? ⟨g, o + at', none⟩ = some (.int .u8 x)) (hx0 : 0 ≤ x) (hx1 : x < 24) :
    Calls Tryd.prog 81 #[.pointer (some ⟨p, 0, none⟩), .int .i64 1] w fun e w' => e = .returned (.tuple #[.int .u64 0, .int .i64 2]) ∧ RF p w w' := by
  have HT := Lib.hid (take_yes p g o N cap at' 1 w h.inp h.pos h.fr h.hcap h.hN hn (by omega))
  have hgp2 : ¬ p = g := fun e => hgp e.symm
  clear h hn
  go_enter Tryd.func81, Tryd.ntmps81
  go_wp2_with (go_at_call 66; refine HT.out.mono ?_; rintro e w' ⟨rfl, m, rfl⟩)
  have hor : bits BinOp.or IntKind.u64 0 x = x := or0 x hx0 hx1
  go_loop [4, 21] (fun n i => ∃ k : Nat, k ≤ 1 ∧ i = .int .i64 k ∧ n = .int .u64 (if k = 0 then 0 else x)) (fun _ i => 1 - (intOf i).toNat)
  case atStart => exact ⟨0, by omega, rfl, rfl⟩
  case round =>
    obtain ⟨k, hk, rfl, rfl⟩ := hrel
    have hk2 : k = 0 ∨ k = 1 := by omega
    rcases hk2 with rfl | rfl
    · go_wp2
      go_round
      case rel => exact ⟨1, by omega, rfl, rfl⟩
      case measure => simp [intOf]
    · have ha := argSz_any x
      have hs0 := argSz0 hx1
      rw [hs0] at ha
      have HA := Lib.hid ha
      clear ha hs0
      go_wp2_with (go_at_call 75; refine (HA.out _).mono ?_; rintro e w' ⟨rfl, rfl⟩)
      go_ret2
      exact ⟨rfl, RF.pos _ _ _ _⟩

set_option maxRecDepth 100000 in
set_option maxHeartbeats 1000000 in
/-- the head 24 with an argument that would fit into it -/
theorem head24_bad (p g o N cap at' : Nat) (x : Int) (w : World) (h : RdAt w p g o N cap at') (hn : at' + 2 ≤ N) (hgp : g ≠ p) (hb : w.cell? ⟨g, o + at', none⟩ = some (.int .u8 24)) (hx : w.cell? ⟨g, o + (at' + 1), none⟩ = some (.int .u8 x)) (hx0 : 0 ≤ x) (hx1 : x < 24) :
    Calls Tryd.prog 64 #[.pointer (some ⟨p, 0, none⟩)] w fun e w' => e = .returned (.tuple #[.int .i64 0, .int .u64 0, .int .i64 2]) ∧ RF p w w' := by
  have HT := Lib.hid (take_yes p g o N cap at' 1 w h.inp h.pos h.fr h.hcap h.hN (by omega) (by omega))
  have HW := Lib.hid (fun (W : World) (hW : RdAt W p g o N cap (at' + 1)) (hx : W.cell? ⟨g, o + (at' + 1), none⟩ = some (.int .u8 x)) => wide1_bad p g o N cap (at' + 1) x W hW (by omega) hgp hx hx0 hx1)
  have H := Lib.hid h
  have hgp2 : ¬ p = g := fun e => hgp e.symm
  have hR : ∀ m, RdAt ((w.drewN m).setCell ⟨p, 3, none⟩ (.int .i64 ((at' + 1 : Nat) : Int))) p g o N cap (at' + 1) := fun m =>
    ⟨by rw [World.cell?_setCell_other _ _ _ _ (by simp)]; exact h.inp, World.cell?_setCell_same _ _ _ h.pos, by rw [World.frozen?_setCell]; exact h.fr, h.hcap, h.hN, by omega⟩
  have HR := Lib.hid hR
  have HX := Lib.hid (fun m => (World.cell?_setCell_other (w.drewN m) ⟨p, 3, none⟩ ⟨g, o + (at' + 1), none⟩ (.int .i64 ((at' + 1 : Nat) : Int)) (by simp [hgp2])).trans hx)
  have ha : bits BinOp.and IntKind.u8 24 31 = 24 := by decide +kernel
  clear h hR hx hn
  go_enter Tryd.func64, Tryd.ntmps64
  go_wp2_with (first | (go_at_call 66; refine HT.out.mono ?_; rintro e w' ⟨rfl, m, rfl⟩) | (go_at_call 81; refine (HW.out _ (by exact HR.out _) (by exact HX.out _)).mono ?_; rintro e w2 ⟨rfl, hb2⟩))
  go_ret3
  exact ⟨rfl, (RF.pos _ _ _ _).trans hb2⟩

set_option maxRecDepth 100000 in
set_option maxHeartbeats 1000000 in
theorem item24_bad (p g o N cap at' : Nat) (x : Int) (w : World) (h : RdAt w p g o N cap at') (hp : p < w.heap.size) (hn : at' + 2 ≤ N) (hgp : g < p) (hb : w.cell? ⟨g, o + at', none⟩ = some (.int .u8 24)) (hx : w.cell? ⟨g, o + (at' + 1), none⟩ = some (.int .u8 x)) (hx0 : 0 ≤ x) (hx1 : x < 24) :
    Calls Tryd.prog 44 #[.pointer (some ⟨p, 0, none⟩)] w fun e w' => e = .returned (.tuple #[.agg #[.int .i64 0, .int .u64 0, .string ⟨#[]⟩], .int .i64 2]) ∧ Below p w w' := by
  have hB0 : Below w.heap.size w (w.alloc (.cells #[.int .i64 0, .int .u64 0, .string ⟨#[]⟩] 58)) := (Below.refl _ w).alloc (Nat.le_refl _) _
  have hR : RdAt (w.alloc (.cells #[.int .i64 0, .int .u64 0, .string ⟨#[]⟩] 58)) p g o N cap at' :=
    ⟨(hB0.cell (p := ⟨p, 2, none⟩) hp).trans h.inp, (hB0.cell (p := ⟨p, 3, none⟩) hp).trans h.pos, (hB0.frozen (p := ⟨p, 3, none⟩) hp).trans h.fr, h.hcap, h.hN, h.hat⟩
  have HH := Lib.hid (head24_bad p g o N cap at' x _ hR hn (by omega) ((hB0.cell (p := ⟨g, o + at', none⟩) (by show g < _; omega)).trans hb) ((hB0.cell (p := ⟨g, o + (at' + 1), none⟩) (by show g < _; omega)).trans hx) hx0 hx1)
  have HB := Lib.hid hB0
  clear hR hB0 h hb hx
  go_enter Tryd.func44, Tryd.ntmps44
  go_wp2_with (go_at_call 64; refine HH.out.mono ?_; rintro e w2 ⟨rfl, hb2⟩; have y0 : w2.cell? ⟨w.heap.size, 0, none⟩ = some (.int .i64 0) := (hb2.cellAt (by simp) (by omega)).trans (by simp); have y1 : w2.cell? ⟨w.heap.size, 1, none⟩ = some (.int .u64 0) := (hb2.cellAt (by simp) (by omega)).trans (by simp); have y2 : w2.cell? ⟨w.heap.size, 2, none⟩ = some (.string ⟨#[]⟩) := (hb2.cellAt (by simp) (by omega)).trans (by simp); have f0 : w2.frozen? ⟨w.heap.size, 0, none⟩ = false := (hb2.frozenAt (by simp) (by omega)).trans (by simp); have f1 : w2.frozen? ⟨w.heap.size, 1, none⟩ = false := (hb2.frozenAt (by simp) (by omega)).trans (by simp); have f2 : w2.frozen? ⟨w.heap.size, 2, none⟩ = false := (hb2.frozenAt (by simp) (by omega)).trans (by simp))
  refine bodyPost_ret (v := .tuple #[.agg #[.int .i64 0, .int .u64 0, .string ⟨#[]⟩], .int .i64 2]) (by simp [results, Tryd.results44, go_sem, y0, y1, y2]) rfl ⟨rfl, ?_⟩
  exact ((((HB.out.mono (by omega)).trans (hb2.below (by simp; omega))).setCell (p := ⟨w.heap.size, 0, none⟩) (by show p ≤ w.heap.size; omega) _).setCell (p := ⟨w.heap.size, 1, none⟩) (by show p ≤ w.heap.size; omega) _).setCell (p := ⟨w.heap.size, 2, none⟩) (by show p ≤ w.heap.size; omega) _

set_option maxRecDepth 100000 in
set_option maxHeartbeats 1000000 in
/-- 0x18 followed by a byte below 24 is refused -/
theorem decode24_bad (g o N cap : Nat) (x : Int) (w : World) (hg : g < w.heap.size) (hcap : N ≤ cap) (hN : N ≤ 1000000000000) (hn : 2 ≤ N) (hb : w.cell? ⟨g, o, none⟩ = some (.int .u8 24)) (hx : w.cell? ⟨g, o + 1, none⟩ = some (.int .u8 x)) (hx0 : 0 ≤ x) (hx1 : x < 24) :
    Calls Tryd.prog 22 #[.slice (some ⟨g, o, none⟩) N cap] w fun e w' => e = .returned (.tuple #[.slice none 0 0, .int .i64 0, .int .i64 2]) ∧ Below w.heap.size w w' := by
  have hB0 : Below w.heap.size w (w.alloc (.cells #[.int .i64 0, .slice none 0 0, .slice (some ⟨g, o, none⟩) N cap, .int .i64 0] 77)) := (Below.refl _ w).alloc (Nat.le_refl _) _
  have hN0 : nestAt (w.alloc (.cells #[.int .i64 0, .slice none 0 0, .slice (some ⟨g, o, none⟩) N cap, .int .i64 0] 77)) (w.heap.size + 1) w.heap.size 0 [] (.slice none 0 0) :=
    ⟨by simp, by simp, by simp, by simp, World.ownsRow_nil _ _ _ _, by omega, by simp, by simp, by omega, by simp⟩
  have hR : RdAt (w.alloc (.cells #[.int .i64 0, .slice none 0 0, .slice (some ⟨g, o, none⟩) N cap, .int .i64 0] 77)) w.heap.size g o N cap 0 :=
    ⟨by simp, by simp, by simp, hcap, hN, by omega⟩
  have HI := Lib.hid (item24_bad w.heap.size g o N cap 0 x _ hR (by simp) hn hg ((hB0.cell (p := ⟨g, o, none⟩) hg).trans hb) ((hB0.cell (p := ⟨g, o + (0 + 1), none⟩) hg).trans (by rw [Nat.zero_add]; exact hx)) hx0 hx1)
  have HN0 := Lib.hid hN0
  have HB0 := Lib.hid hB0
  have hcb : compB 0 [] = false := rfl
  clear hR hN0 hB0 hb hx
  go_enter Tryd.func22, Tryd.ntmps22
  go_wp2_with fail
  refine wp_loop_rounds 1 ?_
  rw [rounds_succ]
  go_wp2_with (first | (go_at_call 41; refine (complete_any _ HN0.out).mono ?_; rintro e w' ⟨rfl, rfl⟩) | (go_at_call 44; refine HI.out.mono ?_; rintro e w2 ⟨rfl, hb2⟩))
  go_ret3
  exact ⟨rfl, (HB0.out.trans hb2).alloc (by have h1 := HB0.out.size; have h2 := hb2.size; omega) _⟩
end Go.Proofs.YtepinmeidjlmmaaDoor
