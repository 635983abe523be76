/- A reader over any bytes: an item that has an error ahead of its content. -/
import Derived.Test.YtepinmeidjlmmaaDoorH4
import Derived.Test.YtepinmeidjlmmaaDoorHeld
namespace Go.Proofs.YtepinmeidjlmmaaDoor
open Go.RowKit
set_option maxRecDepth 100000

theorem RF.setNew {p : Nat} {w w1 : World} (h : RF p w w1) {B : Nat} (hB : w.heap.size ≤ B) (hp : p < w.heap.size) (j : Nat) (u : Value) : RF p w (w1.setCell ⟨B, j, none⟩ u) :=
  ⟨h.os, h.tape, h.output, by simpa using h.size, fun k hk hkp => (heap_setCell_other w1 _ k u (by simp; omega)).trans (h.block k hk hkp), fun i hi => (World.cell?_setCell_other _ _ _ _ (by simp <;> omega)).trans (h.cell i hi), fun i => (World.frozen?_setCell _ _ _ _).trans (h.frz i)⟩
theorem RF.drewN {p : Nat} {w w1 : World} (h : RF p w w1) (n : Nat) : RF p w (w1.drewN n) := ⟨h.os, h.tape, h.output, h.size, h.block, h.cell, h.frz⟩
theorem RF.drew {p : Nat} {w w1 : World} (h : RF p w w1) : RF p w w1.drew := ⟨h.os, h.tape, h.output, h.size, h.block, h.cell, h.frz⟩
theorem RF.allocs {p : Nat} {w w1 : World} (h : RF p w w1) (hp : p < w.heap.size) (o : Obj) : RF p w (w1.alloc o) :=
  h.trans (RF.of_below ((Below.refl _ w1).alloc (Nat.le_refl _) o) (Nat.lt_of_lt_of_le hp h.size))
/-- an item's box -/
def Box (W : World) (B : Nat) (k n : Int) (d : ByteArray) : Prop := W.heap[B]? = some (.cells (itemCs k n d) 58 (0, 0))
theorem Box.cells {W : World} {B : Nat} {k n : Int} {d : ByteArray} (h : Box W B k n d) : W.cell? ⟨B, 0, none⟩ = some (.int .i64 k) ∧ W.cell? ⟨B, 1, none⟩ = some (.int .u64 n) ∧ W.cell? ⟨B, 2, none⟩ = some (.string d) ∧ W.frozen? ⟨B, 0, none⟩ = false ∧ W.frozen? ⟨B, 1, none⟩ = false ∧ W.frozen? ⟨B, 2, none⟩ = false := by
  unfold Box at h
  exact ⟨cell_of_block h rfl, cell_of_block h rfl, cell_of_block h rfl, by simp [World.frozen?, h], by simp [World.frozen?, h], by simp [World.frozen?, h]⟩
theorem Box.new (w : World) (k n : Int) (d : ByteArray) : Box (w.alloc (.cells #[.int .i64 k, .int .u64 n, .string d] 58)) w.heap.size k n d := heap_new w _
theorem Box.lt {W : World} {B : Nat} {k n : Int} {d : ByteArray} (h : Box W B k n d) : B < W.heap.size := lt_of_heap h
theorem Box.rf {W W' : World} {p B : Nat} {k n : Int} {d : ByteArray} (h : Box W B k n d) (hr : RF p W W') (hne : B ≠ p) : Box W' B k n d := (hr.block B h.lt hne).trans h
theorem Box.keep {W W' : World} {B : Nat} {k n : Int} {d : ByteArray} (h : Box W B k n d) (hb : Below W.heap.size W W') : Box W' B k n d := (hb.block B h.lt).trans h
theorem Box.drewN {W : World} {B : Nat} {k n : Int} {d : ByteArray} (h : Box W B k n d) (m : Nat) : Box (W.drewN m) B k n d := h

theorem place_b {w : World} {p base c : Nat} {s : List Lv} {A : Option Addr} {N cap a : Nat} {zs : List Int} (h : RdS w p base c s A N cap a zs) (k : Int) {r : Int} (hr : placeE c s k = r) :
    Calls Tryd.prog 55 #[.pointer (some ⟨p, 0, none⟩), .int .i64 k] w fun e w' => e = .returned (.int .i64 r) ∧ Below w.heap.size w w' := by
  obtain ⟨v, hv⟩ := h.nest
  rw [← hr]
  refine (place_any k w hv).mono ?_
  rintro e w' ⟨he, m, hm⟩
  exact ⟨he, by rw [hm]; exact ⟨rfl, rfl, rfl, Nat.le_refl _, fun _ _ => rfl⟩⟩
def noIt : It := ⟨0, 0, ⟨#[]⟩⟩
def ItemP (p base c : Nat) (s : List Lv) (A : Option Addr) (N cap : Nat) (zs : List Int) (r : Int × It × Nat) (w : World) (e : Ending) (w' : World) : Prop :=
  e = .returned (.tuple #[itemV r.2.1.k r.2.1.n r.2.1.d, .int .i64 r.1]) ∧ RF p w w' ∧ (r.1 = 0 → RdS w' p base c s A N cap r.2.2 zs)

set_option maxHeartbeats 1000000 in
theorem itm_head (p base c : Nat) (s : List Lv) (A : Option Addr) (N cap a a2 : Nat) (zs : List Int) (k n er : Int) (w : World) (h : RdS w p base c s A N cap a zs) (hh : headE zs N a = (k, n, er, a2)) (he : er ≠ 0) :
    Calls Tryd.prog 44 #[.pointer (some ⟨p, 0, none⟩)] w (ItemP p base c s A N cap zs (er, noIt, a) w) := by
  have hp := h.plt
  have hb0 : Below w.heap.size w (w.alloc (.cells #[.int .i64 0, .int .u64 0, .string ⟨#[]⟩] 58)) := (Below.refl _ w).alloc (Nat.le_refl _) _
  have h0 := h.keep hb0
  have hH := hed_any p A N cap a zs _ h0.rd h0.by_
  rw [hh] at hH
  have HH := Lib.hid hH
  have HX := Lib.hid (Box.new w 0 0 ⟨#[]⟩)
  have HR0 := Lib.hid (RF.of_below hb0 hp)
  have hne : (er != 0) = true := by simpa using he
  clear h h0 hH hb0 hh
  go_enter Tryd.func44, Tryd.ntmps44
  go_wp2_with (go_at_call 64; refine HH.out.mono ?_; rintro e w2 ⟨rfl, hr2, _⟩; have hx2 := HX.out.rf hr2 (by omega); obtain ⟨y0, y1, y2, f0, f1, f2⟩ := hx2.cells; have HR2 := Lib.hid hr2; clear hr2 hx2)
  refine bodyPost_ret (v := .tuple #[itemV 0 0 ⟨#[]⟩, .int .i64 er]) (by simp [results, Tryd.results44, go_sem, y0, y1, y2]) rfl ⟨rfl, ?_, fun h0 => absurd h0 he⟩
  exact (((HR0.out.trans HR2.out).setNew (Nat.le_refl _) hp _ _).setNew (Nat.le_refl _) hp _ _).setNew (Nat.le_refl _) hp _ _

set_option maxHeartbeats 1000000 in
theorem itm_place (p base c : Nat) (s : List Lv) (A : Option Addr) (N cap a a2 : Nat) (zs : List Int) (k n er : Int) (w : World) (h : RdS w p base c s A N cap a zs) (hh : headE zs N a = (k, n, 0, a2)) (hpl : placeE c s k = er) (he : er ≠ 0) :
    Calls Tryd.prog 44 #[.pointer (some ⟨p, 0, none⟩)] w (ItemP p base c s A N cap zs (er, noIt, a) w) := by
  have hp := h.plt
  have hb0 : Below w.heap.size w (w.alloc (.cells #[.int .i64 0, .int .u64 0, .string ⟨#[]⟩] 58)) := (Below.refl _ w).alloc (Nat.le_refl _) _
  have h0 := h.keep hb0
  have hH := hed_any p A N cap a zs _ h0.rd h0.by_
  rw [hh] at hH
  have HH := Lib.hid hH
  have HX := Lib.hid (Box.new w 0 0 ⟨#[]⟩)
  have HR0 := Lib.hid (RF.of_below hb0 hp)
  have HS0 := Lib.hid h0
  have HP := Lib.hid hpl
  have hne : (er != 0) = true := by simpa using he
  clear h h0 hH hb0 hh hpl
  go_enter Tryd.func44, Tryd.ntmps44
  go_wp2_with (first
    | (go_at_call 64; refine HH.out.mono ?_; rintro e w2 ⟨rfl, hr2, hd2⟩; have hs2 := HS0.out.rf hr2 (hd2 rfl); obtain ⟨v2, hv2⟩ := hs2.nest; have hx2 := HX.out.rf hr2 (by omega); obtain ⟨y0, y1, y2, f0, f1, f2⟩ := hx2.cells; have HR2 := Lib.hid hr2; have HV2 := Lib.hid hv2; have HS2 := Lib.hid hs2; have HX2 := Lib.hid hx2; clear hr2 hx2 hd2 hv2 hs2)
    | (go_at_call 55; refine (place_any _ _ HV2.out).mono ?_; rintro e w3 ⟨rfl, m, rfl⟩; rw [HP.out]))
  refine bodyPost_ret (v := .tuple #[itemV 0 0 ⟨#[]⟩, .int .i64 er]) (by simp [results, Tryd.results44, go_sem, y0, y1, y2]) rfl ⟨rfl, ?_, fun h0 => absurd h0 he⟩
  exact ((((HR0.out.trans HR2.out).drewN _).setNew (Nat.le_refl _) hp _ _).setNew (Nat.le_refl _) hp _ _).setNew (Nat.le_refl _) hp _ _

set_option maxHeartbeats 1000000 in
theorem itm_large (p base c : Nat) (s : List Lv) (A : Option Addr) (N cap a a2 : Nat) (zs : List Int) (k n : Int) (w : World) (h : RdS w p base c s A N cap a zs) (hh : headE zs N a = (k, n, 0, a2)) (hpl : placeE c s k = 0) (hL : tooLargeB k n = true) :
    Calls Tryd.prog 44 #[.pointer (some ⟨p, 0, none⟩)] w (ItemP p base c s A N cap zs (8, noIt, a) w) := by
  have hp := h.plt
  have hb0 : Below w.heap.size w (w.alloc (.cells #[.int .i64 0, .int .u64 0, .string ⟨#[]⟩] 58)) := (Below.refl _ w).alloc (Nat.le_refl _) _
  have h0 := h.keep hb0
  have hH := hed_any p A N cap a zs _ h0.rd h0.by_
  rw [hh] at hH
  have HH := Lib.hid hH
  have HX := Lib.hid (Box.new w 0 0 ⟨#[]⟩)
  have HR0 := Lib.hid (RF.of_below hb0 hp)
  have HS0 := Lib.hid h0
  have HP := Lib.hid hpl
  have HL := Lib.hid hL
  clear h h0 hH hb0 hh hpl hL
  go_enter Tryd.func44, Tryd.ntmps44
  go_wp2_with (first
    | (go_at_call 64; refine HH.out.mono ?_; rintro e w2 ⟨rfl, hr2, hd2⟩; have hs2 := HS0.out.rf hr2 (hd2 rfl); obtain ⟨v2, hv2⟩ := hs2.nest; have hx2 := HX.out.rf hr2 (by omega); obtain ⟨y0, y1, y2, f0, f1, f2⟩ := hx2.cells; have HR2 := Lib.hid hr2; have HV2 := Lib.hid hv2; have HS2 := Lib.hid hs2; have HX2 := Lib.hid hx2; clear hr2 hx2 hd2 hv2 hs2)
    | (go_at_call 55; refine (place_any _ _ HV2.out).mono ?_; rintro e w3 ⟨rfl, m, rfl⟩; rw [HP.out])
    | (go_at_call 57; refine (tooLarge_any _ _ _).mono ?_; rintro e w4 ⟨rfl, rfl⟩; rw [HL.out]))
  refine bodyPost_ret (v := .tuple #[itemV 0 0 ⟨#[]⟩, .int .i64 8]) (by simp [results, Tryd.results44, go_sem, y0, y1, y2]) rfl ⟨rfl, ?_, fun h0 => by cases h0⟩
  exact ((((HR0.out.trans HR2.out).drewN _).setNew (Nat.le_refl _) hp _ _).setNew (Nat.le_refl _) hp _ _).setNew (Nat.le_refl _) hp _ _

set_option maxHeartbeats 1000000 in
theorem itm_short (p base c : Nat) (s : List Lv) (A : Option Addr) (N cap a a2 : Nat) (zs : List Int) (k n : Int) (w : World) (h : RdS w p base c s A N cap a zs) (hh : headE zs N a = (k, n, 0, a2)) (hpl : placeE c s k = 0) (hL : tooLargeB k n = false) (hD : hasDataB k = true) (hn : (N : Int) < a2 + n) (hn1 : n ≤ 18446744073709551615) :
    Calls Tryd.prog 44 #[.pointer (some ⟨p, 0, none⟩)] w (ItemP p base c s A N cap zs (1, noIt, a) w) := by
  have hp := h.plt
  have hb0 : Below w.heap.size w (w.alloc (.cells #[.int .i64 0, .int .u64 0, .string ⟨#[]⟩] 58)) := (Below.refl _ w).alloc (Nat.le_refl _) _
  have h0 := h.keep hb0
  have hH := hed_any p A N cap a zs _ h0.rd h0.by_
  rw [hh] at hH
  have HH := Lib.hid hH
  have HX := Lib.hid (Box.new w 0 0 ⟨#[]⟩)
  have HR0 := Lib.hid (RF.of_below hb0 hp)
  have HS0 := Lib.hid h0
  have HP := Lib.hid hpl
  have HL := Lib.hid hL
  have HD := Lib.hid hD
  clear h h0 hH hb0 hh hpl hL hD
  go_enter Tryd.func44, Tryd.ntmps44
  go_wp2_with (first
    | (go_at_call 64; refine HH.out.mono ?_; rintro e w2 ⟨rfl, hr2, hd2⟩; have hs2 := HS0.out.rf hr2 (hd2 rfl); obtain ⟨v2, hv2⟩ := hs2.nest; have hx2 := HX.out.rf hr2 (by omega); obtain ⟨y0, y1, y2, f0, f1, f2⟩ := hx2.cells; have HR2 := Lib.hid hr2; have HV2 := Lib.hid hv2; have HS2 := Lib.hid hs2; have HX2 := Lib.hid hx2; clear hr2 hx2 hd2 hv2 hs2)
    | fail)
  refine (place_b HS2.out k HP.out).mono ?_
  rintro e w3 ⟨rfl, hb3⟩
  clear y0 y1 y2 f0 f1 f2
  have hs3 := HS2.out.keep hb3
  have hx3 := HX2.out.keep hb3
  obtain ⟨z0, z1, z2, g0, g1, g2⟩ := hx3.cells
  have HB3 := Lib.hid (RF.of_below hb3 HS2.out.plt)
  have HS3 := Lib.hid hs3
  have HX3 := Lib.hid hx3
  clear hb3 hs3 hx3
  go_wp2_with (first
    | (go_at_call 57; refine (tooLarge_any _ _ _).mono ?_; rintro e w4 ⟨rfl, rfl⟩; rw [HL.out])
    | (go_at_call 65; refine (hasData_any _ _).mono ?_; rintro e w5 ⟨rfl, rfl⟩; rw [HD.out])
    | fail)
  have hb4 : Below w3.heap.size w3 (w3.alloc (.cells #[.int .i64 k, .int .u64 n, .string ⟨#[]⟩] 58)) := (Below.refl _ w3).alloc (Nat.le_refl _) _
  refine (tak_no p A N cap a2 n _ (HS3.out.keep hb4).rd hn hn1).mono ?_
  rintro e w5 ⟨rfl, q, hq⟩
  have hb5 : Below (w3.alloc (.cells #[.int .i64 k, .int .u64 n, .string ⟨#[]⟩] 58)).heap.size (w3.alloc (.cells #[.int .i64 k, .int .u64 n, .string ⟨#[]⟩] 58)) w5 := by rw [← hq]; exact ⟨rfl, rfl, rfl, Nat.le_refl _, fun _ _ => rfl⟩
  have hb35 := hb4.trans (hb5.mono hb4.size)
  clear hq hb4 hb5 z0 z1 z2 g0 g1 g2
  obtain ⟨y0, y1, y2, f0, f1, f2⟩ := (HX3.out.keep hb35).cells
  have HB5 := Lib.hid (RF.of_below hb35 HS3.out.plt)
  clear hb35
  go_wp2
  refine bodyPost_ret (v := .tuple #[itemV 0 0 ⟨#[]⟩, .int .i64 1]) (by simp [results, Tryd.results44, go_sem, y0, y1, y2]) rfl ⟨rfl, ?_, fun h0 => by cases h0⟩
  exact (((((HR0.out.trans HR2.out).trans HB3.out).trans HB5.out).setNew (Nat.le_refl _) hp _ _).setNew (Nat.le_refl _) hp _ _).setNew (Nat.le_refl _) hp _ _
end Go.Proofs.YtepinmeidjlmmaaDoor
