/- Joined: H5, D1, C1, D2, H6, H7. -/
import Derived.Test.YtepinmeidjlmmaaDoorR9
import Derived.Test.YtepinmeidjlmmaaDoorRows
import Derived.Test.YtepinmeidjlmmaaDoorR2
import Derived.Lib.LaidU8T
import Derived.MakeChecks
import Derived.Lay
import Derived.OpenShut
import Derived.ProofKit
import Derived.Test.YtepinmeidjlmmaaDoorR4
/- A reader over any bytes: an item that has an error ahead of its content. -/
namespace Go.Proofs.YtepinmeidjlmmaaDoor
open Go.RowKit
set_option maxRecDepth 100000

theorem RF.setNew {p : Nat} {w w1 : World} (h : RF p w w1) {B : Nat} (hB : w.heap.size ≤ B) (hp : p < w.heap.size) (j : Nat) (u : Value) : RF p w (w1.setCell ⟨B, j, none⟩ u) :=
  ⟨h.os, h.tape, h.output, by simpa using h.size, fun k hk hkp => (heap_setCell_other w1 _ k u (by simp; omega)).trans (h.block k hk hkp), fun i hi => (World.cell?_setCell_other _ _ _ _ (by simp <;> omega)).trans (h.cell i hi), fun i => (World.frozen?_setCell _ _ _ _).trans (h.frz i)⟩
theorem RF.drewN {p : Nat} {w w1 : World} (h : RF p w w1) (n : Nat) : RF p w (w1.drewN n) := ⟨h.os, h.tape, h.output, h.size, h.block, h.cell, h.frz⟩
theorem RF.drew {p : Nat} {w w1 : World} (h : RF p w w1) : RF p w w1.drew := ⟨h.os, h.tape, h.output, h.size, h.block, h.cell, h.frz⟩
theorem RF.allocs {p : Nat} {w w1 : World} (h : RF p w w1) (hp : p < w.heap.size) (o : Obj) : RF p w (w1.alloc o) :=
  h.trans (RF.of_below ((Below.refl _ w1).alloc (Nat.le_refl _) o) (Nat.lt_of_lt_of_le hp h.size))
/-- an item's box -/
def Box (W : World) (B : Nat) (k n : Int) (d : ByteArray) : Prop := W.heap[B]? = some (.cells (itemCs k n d) 58 (0, 0))
theorem Box.cells {W : World} {B : Nat} {k n : Int} {d : ByteArray} (h : Box W B k n d) : W.cell? ⟨B, 0, none⟩ = some (.int .i64 k) ∧ W.cell? ⟨B, 1, none⟩ = some (.int .u64 n) ∧ W.cell? ⟨B, 2, none⟩ = some (.string d) ∧ W.frozen? ⟨B, 0, none⟩ = false ∧ W.frozen? ⟨B, 1, none⟩ = false ∧ W.frozen? ⟨B, 2, none⟩ = false := by
  unfold Box at h
  exact ⟨cell_of_block h rfl, cell_of_block h rfl, cell_of_block h rfl, by simp [World.frozen?, h], by simp [World.frozen?, h], by simp [World.frozen?, h]⟩
theorem Box.new (w : World) (k n : Int) (d : ByteArray) : Box (w.alloc (.cells #[.int .i64 k, .int .u64 n, .string d] 58)) w.heap.size k n d := heap_new w _
theorem Box.lt {W : World} {B : Nat} {k n : Int} {d : ByteArray} (h : Box W B k n d) : B < W.heap.size := lt_of_heap h
theorem Box.rf {W W' : World} {p B : Nat} {k n : Int} {d : ByteArray} (h : Box W B k n d) (hr : RF p W W') (hne : B ≠ p) : Box W' B k n d := (hr.block B h.lt hne).trans h
theorem Box.keep {W W' : World} {B : Nat} {k n : Int} {d : ByteArray} (h : Box W B k n d) (hb : Below W.heap.size W W') : Box W' B k n d := (hb.block B h.lt).trans h
theorem Box.drewN {W : World} {B : Nat} {k n : Int} {d : ByteArray} (h : Box W B k n d) (m : Nat) : Box (W.drewN m) B k n d := h

theorem place_b {w : World} {p base c : Nat} {s : List Lv} {A : Option Addr} {N cap a : Nat} {zs : List Int} (h : RdS w p base c s A N cap a zs) (k : Int) {r : Int} (hr : placeE c s k = r) :
    Calls Tryd.prog 55 #[.pointer (some ⟨p, 0, none⟩), .int .i64 k] w fun e w' => e = .returned (.int .i64 r) ∧ Below w.heap.size w w' := by
  obtain ⟨v, hv⟩ := h.nest
  rw [← hr]
  refine (place_any k w hv).mono ?_
  rintro e w' ⟨he, m, hm⟩
  exact ⟨he, by rw [hm]; exact ⟨rfl, rfl, rfl, Nat.le_refl _, fun _ _ => rfl⟩⟩
def noIt : It := ⟨0, 0, ⟨#[]⟩⟩
def ItemP (p base c : Nat) (s : List Lv) (A : Option Addr) (N cap : Nat) (zs : List Int) (r : Int × It × Nat) (w : World) (e : Ending) (w' : World) : Prop :=
  e = .returned (.tuple #[itemV r.2.1.k r.2.1.n r.2.1.d, .int .i64 r.1]) ∧ RF p w w' ∧ (r.1 = 0 → RdS w' p base c s A N cap r.2.2 zs)

set_option maxHeartbeats 1000000 in
theorem itm_head (p base c : Nat) (s : List Lv) (A : Option Addr) (N cap a a2 : Nat) (zs : List Int) (k n er : Int) (w : World) (h : RdS w p base c s A N cap a zs) (hh : headE zs N a = (k, n, er, a2)) (he : er ≠ 0) :
    Calls Tryd.prog 44 #[.pointer (some ⟨p, 0, none⟩)] w (ItemP p base c s A N cap zs (er, noIt, a) w) := by
  have hp := h.plt
  have hb0 : Below w.heap.size w (w.alloc (.cells #[.int .i64 0, .int .u64 0, .string ⟨#[]⟩] 58)) := (Below.refl _ w).alloc (Nat.le_refl _) _
  have h0 := h.keep hb0
  have hH := hed_any p A N cap a zs _ h0.rd h0.by_
  rw [hh] at hH
  have HH := Lib.hid hH
  have HX := Lib.hid (Box.new w 0 0 ⟨#[]⟩)
  have HR0 := Lib.hid (RF.of_below hb0 hp)
  have hne : (er != 0) = true := by simpa using he
  clear h h0 hH hb0 hh
  go_enter Tryd.func44, Tryd.ntmps44
  go_wp2_with (go_at_call 64; refine HH.out.mono ?_; rintro e w2 ⟨rfl, hr2, _⟩; have hx2 := HX.out.rf hr2 (by omega); obtain ⟨y0, y1, y2, f0, f1, f2⟩ := hx2.cells; have HR2 := Lib.hid hr2; clear hr2 hx2)
  refine bodyPost_ret (v := .tuple #[itemV 0 0 ⟨#[]⟩, .int .i64 er]) (by simp [results, Tryd.results44, go_sem, y0, y1, y2]) rfl ⟨rfl, ?_, fun h0 => absurd h0 he⟩
  exact (((HR0.out.trans HR2.out).setNew (Nat.le_refl _) hp _ _).setNew (Nat.le_refl _) hp _ _).setNew (Nat.le_refl _) hp _ _

set_option maxHeartbeats 1000000 in
theorem itm_place (p base c : Nat) (s : List Lv) (A : Option Addr) (N cap a a2 : Nat) (zs : List Int) (k n er : Int) (w : World) (h : RdS w p base c s A N cap a zs) (hh : headE zs N a = (k, n, 0, a2)) (hpl : placeE c s k = er) (he : er ≠ 0) :
    Calls Tryd.prog 44 #[.pointer (some ⟨p, 0, none⟩)] w (ItemP p base c s A N cap zs (er, noIt, a) w) := by
  have hp := h.plt
  have hb0 : Below w.heap.size w (w.alloc (.cells #[.int .i64 0, .int .u64 0, .string ⟨#[]⟩] 58)) := (Below.refl _ w).alloc (Nat.le_refl _) _
  have h0 := h.keep hb0
  have hH := hed_any p A N cap a zs _ h0.rd h0.by_
  rw [hh] at hH
  have HH := Lib.hid hH
  have HX := Lib.hid (Box.new w 0 0 ⟨#[]⟩)
  have HR0 := Lib.hid (RF.of_below hb0 hp)
  have HS0 := Lib.hid h0
  have HP := Lib.hid hpl
  have hne : (er != 0) = true := by simpa using he
  clear h h0 hH hb0 hh hpl
  go_enter Tryd.func44, Tryd.ntmps44
  go_wp2_with (first
    | (go_at_call 64; refine HH.out.mono ?_; rintro e w2 ⟨rfl, hr2, hd2⟩; have hs2 := HS0.out.rf hr2 (hd2 rfl); obtain ⟨v2, hv2⟩ := hs2.nest; have hx2 := HX.out.rf hr2 (by omega); obtain ⟨y0, y1, y2, f0, f1, f2⟩ := hx2.cells; have HR2 := Lib.hid hr2; have HV2 := Lib.hid hv2; have HS2 := Lib.hid hs2; have HX2 := Lib.hid hx2; clear hr2 hx2 hd2 hv2 hs2)
    | (go_at_call 55; refine (place_any _ _ HV2.out).mono ?_; rintro e w3 ⟨rfl, m, rfl⟩; rw [HP.out]))
  refine bodyPost_ret (v := .tuple #[itemV 0 0 ⟨#[]⟩, .int .i64 er]) (by simp [results, Tryd.results44, go_sem, y0, y1, y2]) rfl ⟨rfl, ?_, fun h0 => absurd h0 he⟩
  exact ((((HR0.out.trans HR2.out).drewN _).setNew (Nat.le_refl _) hp _ _).setNew (Nat.le_refl _) hp _ _).setNew (Nat.le_refl _) hp _ _

set_option maxHeartbeats 1000000 in
theorem itm_large (p base c : Nat) (s : List Lv) (A : Option Addr) (N cap a a2 : Nat) (zs : List Int) (k n : Int) (w : World) (h : RdS w p base c s A N cap a zs) (hh : headE zs N a = (k, n, 0, a2)) (hpl : placeE c s k = 0) (hL : tooLargeB k n = true) :
    Calls Tryd.prog 44 #[.pointer (some ⟨p, 0, none⟩)] w (ItemP p base c s A N cap zs (8, noIt, a) w) := by
  have hp := h.plt
  have hb0 : Below w.heap.size w (w.alloc (.cells #[.int .i64 0, .int .u64 0, .string ⟨#[]⟩] 58)) := (Below.refl _ w).alloc (Nat.le_refl _) _
  have h0 := h.keep hb0
  have hH := hed_any p A N cap a zs _ h0.rd h0.by_
  rw [hh] at hH
  have HH := Lib.hid hH
  have HX := Lib.hid (Box.new w 0 0 ⟨#[]⟩)
  have HR0 := Lib.hid (RF.of_below hb0 hp)
  have HS0 := Lib.hid h0
  have HP := Lib.hid hpl
  have HL := Lib.hid hL
  clear h h0 hH hb0 hh hpl hL
  go_enter Tryd.func44, Tryd.ntmps44
  go_wp2_with (first
    | (go_at_call 64; refine HH.out.mono ?_; rintro e w2 ⟨rfl, hr2, hd2⟩; have hs2 := HS0.out.rf hr2 (hd2 rfl); obtain ⟨v2, hv2⟩ := hs2.nest; have hx2 := HX.out.rf hr2 (by omega); obtain ⟨y0, y1, y2, f0, f1, f2⟩ := hx2.cells; have HR2 := Lib.hid hr2; have HV2 := Lib.hid hv2; have HS2 := Lib.hid hs2; have HX2 := Lib.hid hx2; clear hr2 hx2 hd2 hv2 hs2)
    | (go_at_call 55; refine (place_any _ _ HV2.out).mono ?_; rintro e w3 ⟨rfl, m, rfl⟩; rw [HP.out])
    | (go_at_call 57; refine (tooLarge_any _ _ _).mono ?_; rintro e w4 ⟨rfl, rfl⟩; rw [HL.out]))
  refine bodyPost_ret (v := .tuple #[itemV 0 0 ⟨#[]⟩, .int .i64 8]) (by simp [results, Tryd.results44, go_sem, y0, y1, y2]) rfl ⟨rfl, ?_, fun h0 => by cases h0⟩
  exact ((((HR0.out.trans HR2.out).drewN _).setNew (Nat.le_refl _) hp _ _).setNew (Nat.le_refl _) hp _ _).setNew (Nat.le_refl _) hp _ _

set_option maxHeartbeats 1000000 in
theorem itm_short (p base c : Nat) (s : List Lv) (A : Option Addr) (N cap a a2 : Nat) (zs : List Int) (k n : Int) (w : World) (h : RdS w p base c s A N cap a zs) (hh : headE zs N a = (k, n, 0, a2)) (hpl : placeE c s k = 0) (hL : tooLargeB k n = false) (hD : hasDataB k = true) (hn : (N : Int) < a2 + n) (hn1 : n ≤ 18446744073709551615) :
    Calls Tryd.prog 44 #[.pointer (some ⟨p, 0, none⟩)] w (ItemP p base c s A N cap zs (1, noIt, a) w) := by
  have hp := h.plt
  have hb0 : Below w.heap.size w (w.alloc (.cells #[.int .i64 0, .int .u64 0, .string ⟨#[]⟩] 58)) := (Below.refl _ w).alloc (Nat.le_refl _) _
  have h0 := h.keep hb0
  have hH := hed_any p A N cap a zs _ h0.rd h0.by_
  rw [hh] at hH
  have HH := Lib.hid hH
  have HX := Lib.hid (Box.new w 0 0 ⟨#[]⟩)
  have HR0 := Lib.hid (RF.of_below hb0 hp)
  have HS0 := Lib.hid h0
  have HP := Lib.hid hpl
  have HL := Lib.hid hL
  have HD := Lib.hid hD
  clear h h0 hH hb0 hh hpl hL hD
  go_enter Tryd.func44, Tryd.ntmps44
  go_wp2_with (first
    | (go_at_call 64; refine HH.out.mono ?_; rintro e w2 ⟨rfl, hr2, hd2⟩; have hs2 := HS0.out.rf hr2 (hd2 rfl); obtain ⟨v2, hv2⟩ := hs2.nest; have hx2 := HX.out.rf hr2 (by omega); obtain ⟨y0, y1, y2, f0, f1, f2⟩ := hx2.cells; have HR2 := Lib.hid hr2; have HV2 := Lib.hid hv2; have HS2 := Lib.hid hs2; have HX2 := Lib.hid hx2; clear hr2 hx2 hd2 hv2 hs2)
    | fail)
  refine (place_b HS2.out k HP.out).mono ?_
  rintro e w3 ⟨rfl, hb3⟩
  clear y0 y1 y2 f0 f1 f2
  have hs3 := HS2.out.keep hb3
  have hx3 := HX2.out.keep hb3
  obtain ⟨z0, z1, z2, g0, g1, g2⟩ := hx3.cells
  have HB3 := Lib.hid (RF.of_below hb3 HS2.out.plt)
  have HS3 := Lib.hid hs3
  have HX3 := Lib.hid hx3
  clear hb3 hs3 hx3
  go_wp2_with (first
    | (go_at_call 57; refine (tooLarge_any _ _ _).mono ?_; rintro e w4 ⟨rfl, rfl⟩; rw [HL.out])
    | (go_at_call 65; refine (hasData_any _ _).mono ?_; rintro e w5 ⟨rfl, rfl⟩; rw [HD.out])
    | fail)
  have hb4 : Below w3.heap.size w3 (w3.alloc (.cells #[.int .i64 k, .int .u64 n, .string ⟨#[]⟩] 58)) := (Below.refl _ w3).alloc (Nat.le_refl _) _
  refine (tak_no p A N cap a2 n _ (HS3.out.keep hb4).rd hn hn1).mono ?_
  rintro e w5 ⟨rfl, q, hq⟩
  have hb5 : Below (w3.alloc (.cells #[.int .i64 k, .int .u64 n, .string ⟨#[]⟩] 58)).heap.size (w3.alloc (.cells #[.int .i64 k, .int .u64 n, .string ⟨#[]⟩] 58)) w5 := by rw [← hq]; exact ⟨rfl, rfl, rfl, Nat.le_refl _, fun _ _ => rfl⟩
  have hb35 := hb4.trans (hb5.mono hb4.size)
  clear hq hb4 hb5 z0 z1 z2 g0 g1 g2
  obtain ⟨y0, y1, y2, f0, f1, f2⟩ := (HX3.out.keep hb35).cells
  have HB5 := Lib.hid (RF.of_below hb35 HS3.out.plt)
  clear hb35
  go_wp2
  refine bodyPost_ret (v := .tuple #[itemV 0 0 ⟨#[]⟩, .int .i64 1]) (by simp [results, Tryd.results44, go_sem, y0, y1, y2]) rfl ⟨rfl, ?_, fun h0 => by cases h0⟩
  exact (((((HR0.out.trans HR2.out).trans HB3.out).trans HB5.out).setNew (Nat.le_refl _) hp _ _).setNew (Nat.le_refl _) hp _ _).setNew (Nat.le_refl _) hp _ _
end Go.Proofs.YtepinmeidjlmmaaDoor

/- From what the rows list of the program's tables to the predicate that the contracts ask. -/
namespace Go.Proofs.YtepinmeidjlmmaaDoor
open Go.ChangeShapes Go.WideShapes Go.ChangeAt Go.RowKit Go.Lib

def laid4 : List (String × DataW Unit) := [("math/bits.deBruijn32tab", Rows.laid_math_bits_deBruijn32tab), ("math/bits.deBruijn64tab", Rows.laid_math_bits_deBruijn64tab), ("unicode/utf8.acceptRanges", Rows.laid_unicode_utf8_acceptRanges), ("unicode/utf8.first", Rows.laid_unicode_utf8_first)]

theorem tryd_own : ownKnob Tryd.prog.godebug = none := by kernel_rfl
theorem tryd_laidOut : laidOutB Tryd.prog = true := by kernel_rfl
theorem tryd_u8types : U8Types Tryd.prog Tryd.lays196_ren := U8Types.of196 Tryd.lays196
theorem tryd_u8extra : U8Extra Tryd.prog Tryd.lays196_ren where
  n3 := by kernel_rfl
  n4 := by kernel_rfl
  y3 := by kernel_rfl
  y4 := by kernel_rfl
  c5 := by kernel_rfl
  c119 := by kernel_rfl
  c138 := by kernel_rfl
theorem first_is : Rows.laid_unicode_utf8_first = firstData := by kernel_rfl
theorem accept_is : (Rows.laid_unicode_utf8_acceptRanges : DataW Unit) = acceptData := by kernel_rfl
def tab64 : List Int := [0, 1, 56, 2, 57, 49, 28, 3, 61, 58, 42, 50, 38, 29, 17, 4, 62, 47, 59, 36, 45, 43, 51, 22, 53, 39, 33, 30, 24, 18, 12, 5, 63, 55, 48, 27, 60, 41, 37, 16, 46, 35, 44, 21, 52, 32, 23, 11, 54, 26, 40, 15, 34, 20, 31, 10, 25, 14, 19, 9, 13, 8, 7, 6]
theorem tab64_is : (Rows.laid_math_bits_deBruijn64tab : DataW Unit) = tabData .u8 tab64 := by kernel_rfl

theorem cell_lt {w : World} {b o : Nat} {v : Value} (h : w.cell? ⟨b, o, none⟩ = some v) : b < w.heap.size := by
  rcases Nat.lt_or_ge b w.heap.size with h1 | h1
  · exact h1
  · unfold World.cell? at h
    simp [Array.getElem?_eq_none h1] at h

theorem tabs_of_laid {W : World} (h : laidMetH Tryd.prog laid4 W) : Tabs W := by
  rw [MakeChecks.laidMetH_plain _ _ _ (by kernel_rfl)] at h
  have h3 := laidMet.reads h (n := "unicode/utf8.first") (d := firstData) (by rw [laid4, first_is]; simp)
  have h4 := laidMet.reads h (n := "unicode/utf8.acceptRanges") (d := acceptData) (by rw [laid4, accept_is]; simp)
  have h64 := laidMet.reads h (n := "math/bits.deBruijn64tab") (d := tabData .u8 tab64) (by rw [laid4, tab64_is]; simp)
  obtain ⟨g, t, cs, fuel, p, hg, hty, hvar, hd⟩ := h64
  obtain rfl := Option.some.inj ((show Tryd.prog.globalNamed "math/bits.deBruijn64tab" = some 3 by kernel_rfl).symm.trans hg)
  obtain rfl := Option.some.inj ((show (Tryd.prog.globals[3]?).map (·.type) = some 145 by kernel_rfl).symm.trans hty)
  have hcs := cells_of_tab Tryd.underlying145 Tryd.underlying5 (by kernel_rfl) (by kernel_rfl) hd
  have hc : ∀ c, W.cell? ⟨3, c, none⟩ = (tab64.map fun z => Value.int .u8 z)[c]? := fun c => by
    rw [World.var?_cell hg hvar c, ← Array.getElem?_toList, hcs]
  have z0 : W.cell? ⟨3, 0, none⟩ = some (.int .u8 0) := hc 0
  exact ⟨⟨z0, hc 1, hc 3, hc 7, cell_lt z0⟩, utf8Tabs_of_readsT tryd_u8types tryd_u8extra h3 h4⟩

end Go.Proofs.YtepinmeidjlmmaaDoor

namespace Go.Proofs.YtepinmeidjlmmaaDoor
open Go.RowKit

theorem heap_alloc_if (w : World) (o : Obj) (n : Nat) : (w.alloc o).heap[n]? = if n = w.heap.size then some o else w.heap[n]? := by
  show (w.heap.push o)[n]? = _
  rw [Array.getElem?_push]
theorem heap_drewN (w : World) (m : Nat) : (w.drewN m).heap = w.heap := rfl
theorem heap_drew (w : World) : w.drew.heap = w.heap := rfl

/-- what []byte reads as: a string -/
def ConvAt (w : World) (B : Nat) (v : Value) (sb : ByteArray) : Prop := ∀ W : World, Below B w W → (convert 25 9 v).run Tryd.prog W = .ok (.string sb) W

set_option maxRecDepth 100000 in
set_option maxHeartbeats 400000 in
theorem bytes_any (v : Value) (sb : ByteArray) (w : World) (h : (convert 25 9 v).run Tryd.prog w = .ok (.string sb) w) : Calls Tryd.prog 35 #[v] w (OneNew w 3 0 sb) := by
  go_enter Tryd.func35, Tryd.ntmps35
  go_wp2
  go_ret
  exact ⟨rfl, rfl⟩

def TwoNew (w : World) (k n : Int) (d : ByteArray) (e : Ending) (w' : World) : Prop := e = .returned (.slice (some ⟨w.heap.size + 1, 0, none⟩) 1 1) ∧ (w.alloc (.cells (itemCs k n d) 58)).alloc (.cells (itemCs k n d) 58) = w'
set_option maxRecDepth 100000 in
set_option maxHeartbeats 400000 in
theorem bool_any (v : Bool) (w : World) : Calls Tryd.prog 29 #[.bool v] w (TwoNew w 7 (if v = true then 1 else 0) ⟨#[]⟩) := by
  cases v
  · go_enter Tryd.func29, Tryd.ntmps29
    go_wp2
    go_ret
    exact ⟨rfl, rfl⟩
  · go_enter Tryd.func29, Tryd.ntmps29
    go_wp2
    go_ret
    exact ⟨rfl, rfl⟩

theorem below_after {w W w9 : World} (h1 : Below w.heap.size w W) (h2 : Below W.heap.size W w9) : Below w.heap.size w w9 := h1.trans (h2.mono h1.size)
theorem heap_alloc_size (w : World) (o : Obj) : (w.alloc o).heap.size = w.heap.size + 1 := by simp

theorem CS.of {w W : World} {v : Value} {sb : ByteArray} (h : ConvAt w w.heap.size v sb) (hb : Below w.heap.size w W) : Below w.heap.size w W ∧ (convert 25 9 v).run Tryd.prog W = .ok (.string sb) W := ⟨hb, h W hb⟩
theorem bool_true (w : World) : Calls Tryd.prog 29 #[.bool true] w (TwoNew w 7 1 ⟨#[]⟩) := bool_any true w
theorem bool_false (w : World) : Calls Tryd.prog 29 #[.bool false] w (TwoNew w 7 0 ⟨#[]⟩) := bool_any false w

end Go.Proofs.YtepinmeidjlmmaaDoor

/- What every law's row asks alike: arguments read behind the call as before it; a []byte argument turned into a string; the tied card. -/
namespace Go.Proofs.YtepinmeidjlmmaaDoor
set_option maxRecDepth 100000
open Go.ChangeShapes Go.WideShapes Go.ChangeAt Go.RowKit

theorem args_again {H : Type} {enc : TypeId × Value → H} {W W' : World} (hb : Below W.heap.size W W') : ∀ {ts : List TypeId} {vs : List Value} {ds : List (DataW H)} {ps : List MemPlace},
    (∀ t ∈ ts, Tryd.prog.readableRec t = true ∧ t < Tryd.prog.types.size) → DataW.TrodAll enc Tryd.prog W 0 (fun _ => true) true ts vs ds ps → (∀ x ∈ ps, x.block < W.heap.size) →
    DataW.TrodAll enc Tryd.prog W' 0 (fun b => decide (b < W.heap.size)) true ts vs ds ps
  | [], vs, ds, ps, _, h, _ => by
    obtain ⟨rfl, rfl, rfl⟩ := trodAll_nil h
    exact trodAll_mk0
  | t :: ts, vs, ds, ps, hts, h, hlt => by
    obtain ⟨v, vs', d, ds', p, p', rfl, rfl, rfl, h1, h2⟩ := trodAll_cons h
    exact trodAll_cons_mk (Below.trod tryd_laidOut (hts t (by simp)).1 (hts t (by simp)).2 h1 hb fun x hx => hlt x (by simp [hx]))
      (args_again hb (fun u hu => hts u (by simp [hu])) h2 fun x hx => hlt x (by simp [hx]))

/-- A law that answers true and writes no cell that was there: what the row asks of its end. -/
theorem post_true {H : Type} {enc : TypeId × Value → H} {f : Func} {s : ChangeSpec} {W W' : World} {args : Array Value} {ds : List (DataW H)} {before : List MemPlace}
    (hW : DataW.Whole enc Tryd.prog f.params.toList s.vars false W args.toList ds [] before) (hv : s.vars = []) (hb : Below W.heap.size W W')
    (hA : DataW.TrodAll enc Tryd.prog W 0 (fun _ => true) true f.params.toList args.toList ds before)
    (hts : ∀ t ∈ f.params.toList, Tryd.prog.readableRec t = true ∧ t < Tryd.prog.types.size) (hres : f.resultTypes.toList = [4]) (hsz : f.resultTypes.size = 1)
    (hfn : s.fn H (ds ++ []) = { results := [.lit (.bool true)], args := ds, vars := [] }) :
    s.post enc Tryd.prog f false true false false W args (.bool true) W' := by
  refine ⟨ds, [], before, [], before, [], hW, ?_, ?_, ?_, hb.frame _, fun h => by cases h⟩
  · rw [hfn, hres, hsz]
    exact trodAll_mk1 (shut_bool Tryd.underlying4 _)
  · rw [hfn]
    exact args_again hb hts hA fun x hx => by simpa using hW.lt x hx
  · rw [hfn, hv]
    rfl

theorem run_convert_bytes_at (w : World) (a : Addr) (len cap : Nat) (xs : List Int) (hlen : xs.length = len) (hcell : ∀ i, i < len → w.cell? (a.add i) = some (.int .u8 (xs.getD i 0))) :
    (convert 25 9 (.slice (some a) len cap)).run Tryd.prog w = .ok (.string (strOfNums xs)) w := by
  have hl : (loadCells a len).run Tryd.prog w = .ok (xs.map (Value.int .u8)).toArray w := by
    have := run_loadCells_list (P := Tryd.prog) w a (xs.map (Value.int .u8)) (fun j v hj => by
      have hjl : j < xs.length := by
        rcases Nat.lt_or_ge j xs.length with h | h
        · exact h
        · simp [List.getElem?_eq_none (show (xs.map (Value.int .u8)).length ≤ j by simpa using h)] at hj
      rw [hcell j (by omega)]
      simp [List.getElem?_eq_getElem hjl] at hj
      subst hj
      simp [List.getD, List.getElem?_eq_getElem hjl])
    simpa [hlen] using this
  rw [run_convert_bytes_string w 25 9 5 _ len cap Tryd.underlying25 Tryd.underlying5 Tryd.underlying9, run_bytesToString w _ len cap xs hl, foldl_push_bytes]
  simp [strOfNums, ByteArray.empty, ByteArray.emptyWithCapacity]
  rfl

set_option maxRecDepth 100000 in
theorem tryd_cells5 : Tryd.prog.cellsOf 5 = 1 := by kernel_rfl

set_option maxRecDepth 100000 in
theorem u8_of_wf {z : Int} (h : (Lit.int .u8 z).wf = true) : 0 ≤ z ∧ z ≤ 255 := by
  have h1 : (decide (IntKind.u8.min ≤ z) && decide (z ≤ IntKind.u8.max)) = true := h
  simp only [Bool.and_eq_true, decide_eq_true_eq] at h1
  exact ⟨h1.1, h1.2⟩
theorem u64_of_wf {z : Int} (h : (Lit.int .u64 z).wf = true) : 0 ≤ z ∧ z ≤ 18446744073709551615 := by
  have h1 : (decide (IntKind.u64.min ≤ z) && decide (z ≤ IntKind.u64.max)) = true := h
  simp only [Bool.and_eq_true, decide_eq_true_eq] at h1
  exact ⟨h1.1, h1.2⟩

/-- A []byte argument, opened: nil or a row of bytes; in every later world it reads as one string. -/
theorem open_bytes {H : Type} {enc : TypeId × Value → H} {W : World} {b0 base : Nat} {r : Reach} {v : Value} {d : DataW H} {ps : List MemPlace} (hval : Value.okWide Tryd.prog W r b0 25 v) (hd : DataW.Trod enc Tryd.prog W base (fun _ => true) true 25 v d ps) :
    ∃ (a : Option Addr) (len cap : Nat) (zs : List Int), v = .slice a len cap ∧ zs.length = len ∧ (∀ z ∈ zs, 0 ≤ z ∧ z ≤ 255) ∧ ConvAt W W.heap.size (.slice a len cap) (strOfNums zs) ∧ len ≤ maxLen ∧
      ((a = none ∧ len = 0 ∧ cap = 0) ∨ ∃ b, a = some b ∧ len ≤ cap ∧ ∀ i, i < len → W.cell? (b.add i) = some (.int .u8 (zs.getD i 0))) := by
  obtain ⟨a0, len, cap, rfl⟩ := okWide_slice Tryd.underlying25 hval
  obtain ⟨fuel, hf⟩ := hd
  rcases open_ints Tryd.underlying25 Tryd.underlying5 tryd_cells5 hf with ⟨hcs, hx⟩ | ⟨a, len', cap', zs, hcs, _, hl, hm, hz, hx, hcell, hwz⟩
  · simp [Value.cells] at hcs
    obtain ⟨rfl, rfl, rfl⟩ := hcs
    refine ⟨none, 0, 0, [], rfl, rfl, (by simp), fun W' _ => ?_, (by unfold maxLen; omega), .inl ⟨rfl, rfl, rfl⟩⟩
    exact run_convert_bytes_nil W' 25 5 Tryd.underlying25 Tryd.underlying5 0 0 9 Tryd.underlying9
  · simp [Value.cells] at hcs
    obtain ⟨rfl, rfl, rfl⟩ := hcs
    simp only [if_true] at hz
    have hc : ∀ i, i < len → W.cell? (a.add i) = some (.int .u8 ((zs.take len).getD i 0)) := fun i hi => by
      rw [hcell i (by omega)]
      simp [List.getD, hi]
    have hlt : (zs.take len).length = len := by simp; omega
    refine ⟨some a, len, cap, zs.take len, rfl, hlt, fun z hzm => ?_, fun W' hW' => run_convert_bytes_at W' a len cap _ hlt fun i hi => ?_, by omega, .inr ⟨a, rfl, hl, hc⟩⟩
    · exact u8_of_wf (hwz z (List.mem_of_mem_take hzm))
    · have h1 := hc i hi
      refine (hW'.cell ?_).trans h1
      have : (a.add i).block < W.heap.size := by
        obtain ⟨b, off, spot⟩ := a
        rcases Nat.lt_or_ge b W.heap.size with h2 | h2
        · unfold Addr.add; split <;> exact h2
        · unfold World.cell? at h1
          have hb : ((⟨b, off, spot⟩ : Addr).add i).block = b := by unfold Addr.add; split <;> rfl
          simp [hb, Array.getElem?_eq_none h2] at h1
      exact this

end Go.Proofs.YtepinmeidjlmmaaDoor

/- A reader over any bytes: an item whose content is examined. -/
namespace Go.Proofs.YtepinmeidjlmmaaDoor
open Go.RowKit
set_option maxRecDepth 100000

theorem Box.set3 {W : World} {B : Nat} {k0 n0 k n : Int} {d0 d : ByteArray} (h : Box W B k0 n0 d0) : Box (((W.setCell ⟨B, 0, none⟩ (.int .i64 k)).setCell ⟨B, 1, none⟩ (.int .u64 n)).setCell ⟨B, 2, none⟩ (.string d)) B k n d := by
  unfold Box itemCs at h ⊢
  simp [World.setCell, Array.getElem?_modify, h]
theorem Box.far {W : World} {B B2 : Nat} {k n : Int} {d : ByteArray} (h : Box W B k n d) (hne : B ≠ B2) (j : Nat) (u : Value) : Box (W.setCell ⟨B2, j, none⟩ u) B k n d := (heap_setCell_other W _ B u hne).trans h
theorem Rd.far {w : World} {p : Nat} {A : Option Addr} {N cap a : Nat} (h : Rd w p A N cap a) {B : Nat} (hne : B ≠ p) (j : Nat) (u : Value) : Rd (w.setCell ⟨B, j, none⟩ u) p A N cap a :=
  ⟨(World.cell?_setCell_other _ _ _ _ (by simp <;> omega)).trans h.inp, (World.cell?_setCell_other _ _ _ _ (by simp <;> omega)).trans h.pos, (World.frozen?_setCell _ _ _ _).trans h.fr, h.hcap, h.hcm, h.hN, h.hat⟩
theorem gen_world {P : Program} {code : Code} {Q : Exit → Act → World → Prop} {a : Act} {W : World} (F : World → Prop) (h0 : F W) (h : ∀ W', F W' → Code.wp P code Q a W') : Code.wp P code Q a W := h W h0
theorem conv_bys {w : World} {A : Option Addr} {n cap : Nat} {zs : List Int} (h : Bys w A n zs) : (convert 25 9 (.slice A n cap)).run Tryd.prog w = .ok (.string (strOfNums zs)) w := by
  rcases A with _ | a
  · have hn : n = 0 := by
      rcases Nat.eq_zero_or_pos n with h0 | h0
      · exact h0
      · obtain ⟨_, e, _⟩ := h.at_ 0 h0
        cases e
    have hz : zs = [] := List.eq_nil_of_length_eq_zero (by rw [h.len, hn])
    subst hz
    subst hn
    exact run_convert_bytes_nil w 25 5 Tryd.underlying25 Tryd.underlying5 0 cap 9 Tryd.underlying9
  · exact run_convert_bytes_at w a n cap zs h.len fun i hi => by
      obtain ⟨a2, e, hc⟩ := h.at_ i hi
      cases e
      exact hc
theorem content_b {w : World} {p base c : Nat} {s : List Lv} {A : Option Addr} {N cap a : Nat} {zs : List Int} (h : RdS w p base c s A N cap a zs) (k n : Int) (d : ByteArray) {r : Int} (hr : contentE s k n d = r) (hn0 : 0 ≤ n) (hk0 : 1 ≤ k) (hk1 : k ≤ 8) (h7 : k = 7 → n ≤ 1) (hd : d.size ≤ 1100) :
    Calls Tryd.prog 58 #[.pointer (some ⟨p, 0, none⟩), itemV k n d] w fun e w' => e = .returned (.int .i64 r) ∧ Below w.heap.size w w' := by
  obtain ⟨v, hv⟩ := h.nest
  rw [← hr]
  exact content_any k n d w hv h.tabs hn0 hk0 hk1 h7 hd
/-- what is known ahead of the content's examination -/
structure Ahead (w W : World) (p base c : Nat) (s : List Lv) (A : Option Addr) (N cap a : Nat) (zs : List Int) (B : Nat) (k n : Int) (d : ByteArray) : Prop where
  rds : RdS W p base c s A N cap a zs
  box : Box W B k n d
  res : Box W w.heap.size 0 0 ⟨#[]⟩
  rf : RF p w W
  lt : w.heap.size < B
theorem Ahead.keep {w W W' : World} {p base c : Nat} {s : List Lv} {A : Option Addr} {N cap a : Nat} {zs : List Int} {B : Nat} {k n : Int} {d : ByteArray} (h : Ahead w W p base c s A N cap a zs B k n d) (hb : Below W.heap.size W W') : Ahead w W' p base c s A N cap a zs B k n d :=
  ⟨h.rds.keep hb, h.box.keep hb, h.res.keep hb, h.rf.trans (RF.of_below hb h.rds.plt), h.lt⟩
theorem RdS.far {w : World} {p base c : Nat} {s : List Lv} {A : Option Addr} {N cap a : Nat} {zs : List Int} (h : RdS w p base c s A N cap a zs) {w0 : World} (h0 : RdS w0 p base c s A N cap a zs) (hr : RF p w0 w) {B : Nat} (hB : w0.heap.size ≤ B) (hne : B ≠ p) (j : Nat) (u : Value) : RdS (w.setCell ⟨B, j, none⟩ u) p base c s A N cap a zs :=
  h0.rf (hr.setNew hB h0.plt j u) (h.rd.far hne j u)

set_option maxHeartbeats 2000000 in
theorem itm_data_err (p base c : Nat) (s : List Lv) (A : Option Addr) (N cap a a2 nn : Nat) (zs : List Int) (k n er : Int) (w : World) (h : RdS w p base c s A N cap a zs) (hh : headE zs N a = (k, n, 0, a2)) (hpl : placeE c s k = 0) (hL : tooLargeB k n = false) (hD : hasDataB k = true) (hn : a2 + nn ≤ N) (hnn : n = nn) (hn1 : nn ≤ 1024) (hk0 : 1 ≤ k) (hk1 : k ≤ 8) (hn0 : 0 ≤ n) (hk7 : k = 7 → (0 : Int) ≤ 1) (hE : contentE s k 0 (strOfNums ((zs.drop a2).take nn)) = er) (he : er ≠ 0) :
    Calls Tryd.prog 44 #[.pointer (some ⟨p, 0, none⟩)] w (ItemP p base c s A N cap zs (er, noIt, a) w) := by
  subst hnn
  have hp := h.plt
  have hb0 : Below w.heap.size w (w.alloc (.cells #[.int .i64 0, .int .u64 0, .string ⟨#[]⟩] 58)) := (Below.refl _ w).alloc (Nat.le_refl _) _
  have h0 := h.keep hb0
  have hH := hed_any p A N cap a zs _ h0.rd h0.by_
  rw [hh] at hH
  have HH := Lib.hid hH
  have HX := Lib.hid (Box.new w 0 0 ⟨#[]⟩)
  have HR0 := Lib.hid (RF.of_below hb0 hp)
  have HS0 := Lib.hid h0
  have HP := Lib.hid hpl
  have HL := Lib.hid hL
  have HD := Lib.hid hD
  have HE := Lib.hid hE
  have HN0 : (0 : Int) ≤ 0 := by omega
  have HK0 := hk0
  have HK1 := hk1
  have HK7 := Lib.hid hk7
  have hne : (er != 0) = true := by simpa using he
  have HDS : (strOfNums ((zs.drop a2).take nn)).size ≤ 1100 := by rw [strOfNums_size]; simp; omega
  generalize hD2 : strOfNums ((zs.drop a2).take nn) = D2 at *
  have HD2 := Lib.hid hD2
  clear hD2
  clear h h0 hH hb0 hh hpl hL hD hE hk7
  go_enter Tryd.func44, Tryd.ntmps44
  go_wp2_with (first
    | (go_at_call 64; refine HH.out.mono ?_; rintro e w2 ⟨rfl, hr2, hd2⟩; have hs2 := HS0.out.rf hr2 (hd2 rfl); have hx2 := HX.out.rf hr2 (by omega); have HR2 := Lib.hid hr2; have HS2 := Lib.hid hs2; have HX2 := Lib.hid hx2; clear hr2 hx2 hd2 hs2)
    | fail)
  refine (place_b HS2.out k HP.out).mono ?_
  rintro e w3 ⟨rfl, hb3⟩
  have hs3 := HS2.out.keep hb3
  have hx3 := HX2.out.keep hb3
  have HR3 := Lib.hid ((HR0.out.trans HR2.out).trans (RF.of_below hb3 HS2.out.plt))
  have HS3 := Lib.hid hs3
  have HX3 := Lib.hid hx3
  clear hb3 hs3 hx3
  go_wp2_with (first
    | (go_at_call 57; refine (tooLarge_any _ _ _).mono ?_; rintro e w4 ⟨rfl, rfl⟩; rw [HL.out])
    | (go_at_call 65; refine (hasData_any _ _).mono ?_; rintro e w5 ⟨rfl, rfl⟩; rw [HD.out])
    | fail)
  have hb4 : Below w3.heap.size w3 (w3.alloc (.cells #[.int .i64 k, .int .u64 nn, .string ⟨#[]⟩] 58)) := (Below.refl _ w3).alloc (Nat.le_refl _) _
  have hs4 := HS3.out.keep hb4
  refine (tak_yes p A N cap a2 nn _ hs4.rd hn).mono ?_
  rintro e w5 ⟨rfl, hr5, hd5⟩
  have hs5 := hs4.rf hr5 hd5
  have hcv := conv_bys (cap := cap - a2) (hs5.by_.1.cut a2 nn hn hs5.rd.hcap)
  rw [HD2.out] at hcv
  have hbx := (Box.new w3 k nn ⟨#[]⟩).rf hr5 (by have := HS3.out.plt; omega)
  have hx5 := (HX3.out.keep hb4).rf hr5 (by omega)
  have hr35 := (RF.of_below hb4 HS3.out.plt).trans hr5
  have hw3 := HX3.out.lt
  have hp3 := HS3.out.plt
  have HS5 := Lib.hid hs5
  have HBX := Lib.hid hbx
  have HX5 := Lib.hid hx5
  have HR35 := Lib.hid hr35
  obtain ⟨g0, g1, g2, u0, u1, u2⟩ := hbx.cells
  clear hb4 hs4 hr5 hd5 hs5 hbx hx5 hr35
  go_wp2
  refine gen_world (fun W => Ahead w W p base c s A N cap (a2 + nn) zs w3.heap.size k 0 D2 ∧ (∀ W0 : World, True)) ⟨⟨?_, HBX.out.set3, ?_, ?_, hw3⟩, fun _ => trivial⟩ ?_
  · exact HS3.out.rf (((HR35.out.setNew (Nat.le_refl _) hp3 _ _).setNew (Nat.le_refl _) hp3 _ _).setNew (Nat.le_refl _) hp3 _ _) (((HS5.out.rd.far (by omega) _ _).far (by omega) _ _).far (by omega) _ _)
  · exact ((HX5.out.far (by omega) _ _).far (by omega) _ _).far (by omega) _ _
  · exact HR3.out.trans (((HR35.out.setNew (Nat.le_refl _) hp3 _ _).setNew (Nat.le_refl _) hp3 _ _).setNew (Nat.le_refl _) hp3 _ _)
  intro w6 ⟨ha, _⟩
  have HA := Lib.hid ha
  clear ha g0 g1 g2 u0 u1 u2 hcv
  refine held_begin (by kernel_rfl) ?_
  refine held_take (i := 0) (v := ?_) rfl rfl (by kernel_rfl) (by kernel_rfl) (by kernel_rfl) (fun _ _ _ h => h) (by rfl) ?_ ?_
  rotate_left
  · intro W hW
    go_simp
    try with_reducible rfl
  simp only [Act.put, List.setIfInBounds_toArray, List.set_cons_zero, List.set_cons_succ]
  refine held_take (i := 1) (v := ?_) rfl rfl (by kernel_rfl) (by kernel_rfl) (by kernel_rfl) (fun _ _ _ h => h) (by rfl) ?_ ?_
  rotate_left
  · intro W hW
    go_simp
    try with_reducible rfl
  simp only [Act.put, List.setIfInBounds_toArray, List.set_cons_zero, List.set_cons_succ]
  refine held_take (i := 2) (v := ?_) rfl rfl (by kernel_rfl) (by kernel_rfl) (by kernel_rfl) (fun _ _ _ h => h) (by rfl) ?_ ?_
  rotate_left
  · intro W hW
    go_simp
    try with_reducible rfl
  simp only [Act.put, List.setIfInBounds_toArray, List.set_cons_zero, List.set_cons_succ]
  refine held_take (i := 3) (v := ?_) rfl rfl (by kernel_rfl) (by kernel_rfl) (by kernel_rfl) (fun _ _ _ h => h) (by rfl) ?_ ?_
  rotate_left
  · intro W hW
    obtain ⟨q0, q1, q2, _, _, _⟩ := ((HA.out.keep (⟨rfl, rfl, rfl, Nat.le_refl _, fun _ _ => rfl⟩ : Below w6.heap.size w6 w6.drew)).box.keep hW).cells
    go_simp
    try with_reducible rfl
  simp only [Act.put, List.setIfInBounds_toArray, List.set_cons_zero, List.set_cons_succ]
  refine held_call (i := 4) (by kernel_rfl) rfl (fun K' hK => ?_)
  go_simp
  refine (content_b (HA.out.keep (⟨rfl, rfl, rfl, Nat.le_refl _, fun _ _ => rfl⟩ : Below w6.heap.size w6 w6.drew)).rds k 0 D2 HE.out HN0 HK0 HK1 HK7.out HDS).mono ?_
  rintro e w7 ⟨rfl, hb⟩
  refine hK.out _ _ hb ?_
  clear hK K'
  have HA7 := Lib.hid ((HA.out.keep (⟨rfl, rfl, rfl, Nat.le_refl _, fun _ _ => rfl⟩ : Below w6.heap.size w6 w6.drew)).keep hb)
  clear hb
  refine held_take (i := 5) (v := ?_) rfl rfl (by kernel_rfl) (by kernel_rfl) (by kernel_rfl) (fun _ _ _ h => h) (by rfl) ?_ ?_
  rotate_left
  · intro W hW
    go_simp
    try with_reducible rfl
  simp only [Act.put, List.setIfInBounds_toArray, List.set_cons_zero, List.set_cons_succ]
  refine wpAnyH_done (by kernel_rfl) ?_ _
  obtain ⟨y0, y1, y2, f0, f1, f2⟩ := HA7.out.res.cells
  go_wp2
  refine bodyPost_ret (v := .tuple #[itemV 0 0 ⟨#[]⟩, .int .i64 er]) (by simp [results, Tryd.results44, go_sem, y0, y1, y2]) rfl ⟨rfl, ?_, fun h0 => absurd h0 he⟩
  exact ((HA7.out.rf.setNew (Nat.le_refl _) hp _ _).setNew (Nat.le_refl _) hp _ _).setNew (Nat.le_refl _) hp _ _

set_option maxHeartbeats 2000000 in
theorem itm_plain_err (p base c : Nat) (s : List Lv) (A : Option Addr) (N cap a a2 : Nat) (zs : List Int) (k n er : Int) (w : World) (h : RdS w p base c s A N cap a zs) (hh : headE zs N a = (k, n, 0, a2)) (hpl : placeE c s k = 0) (hL : tooLargeB k n = false) (hD : hasDataB k = false) (hk0 : 1 ≤ k) (hk1 : k ≤ 8) (hn0 : 0 ≤ n) (hk7 : k = 7 → (n : Int) ≤ 1) (hE : contentE s k n ⟨#[]⟩ = er) (he : er ≠ 0) :
    Calls Tryd.prog 44 #[.pointer (some ⟨p, 0, none⟩)] w (ItemP p base c s A N cap zs (er, noIt, a) w) := by
  have hp := h.plt
  have hb0 : Below w.heap.size w (w.alloc (.cells #[.int .i64 0, .int .u64 0, .string ⟨#[]⟩] 58)) := (Below.refl _ w).alloc (Nat.le_refl _) _
  have h0 := h.keep hb0
  have hH := hed_any p A N cap a zs _ h0.rd h0.by_
  rw [hh] at hH
  have HH := Lib.hid hH
  have HX := Lib.hid (Box.new w 0 0 ⟨#[]⟩)
  have HR0 := Lib.hid (RF.of_below hb0 hp)
  have HS0 := Lib.hid h0
  have HP := Lib.hid hpl
  have HL := Lib.hid hL
  have HD := Lib.hid hD
  have HE := Lib.hid hE
  have HN0 : (0 : Int) ≤ n := by omega
  have HK0 := hk0
  have HK1 := hk1
  have HK7 := Lib.hid hk7
  have hne : (er != 0) = true := by simpa using he
  have HDS : (⟨#[]⟩ : ByteArray).size ≤ 1100 := by decide
  clear h h0 hH hb0 hh hpl hL hD hE hk7
  go_enter Tryd.func44, Tryd.ntmps44
  go_wp2_with (first
    | (go_at_call 64; refine HH.out.mono ?_; rintro e w2 ⟨rfl, hr2, hd2⟩; have hs2 := HS0.out.rf hr2 (hd2 rfl); have hx2 := HX.out.rf hr2 (by omega); have HR2 := Lib.hid hr2; have HS2 := Lib.hid hs2; have HX2 := Lib.hid hx2; clear hr2 hx2 hd2 hs2)
    | fail)
  refine (place_b HS2.out k HP.out).mono ?_
  rintro e w3 ⟨rfl, hb3⟩
  have hs3 := HS2.out.keep hb3
  have hx3 := HX2.out.keep hb3
  have HR3 := Lib.hid ((HR0.out.trans HR2.out).trans (RF.of_below hb3 HS2.out.plt))
  have HS3 := Lib.hid hs3
  have HX3 := Lib.hid hx3
  clear hb3 hs3 hx3
  go_wp2_with (first
    | (go_at_call 57; refine (tooLarge_any _ _ _).mono ?_; rintro e w4 ⟨rfl, rfl⟩; rw [HL.out])
    | (go_at_call 65; refine (hasData_any _ _).mono ?_; rintro e w5 ⟨rfl, rfl⟩; rw [HD.out])
    | fail)
  have hw3 := HX3.out.lt
  refine gen_world (fun W => Ahead w W p base c s A N cap a2 zs w3.heap.size k n ⟨#[]⟩) ?_ ?_
  · have hb4 : Below w3.heap.size w3 (w3.alloc (.cells #[.int .i64 k, .int .u64 n, .string ⟨#[]⟩] 58)) := (Below.refl _ w3).alloc (Nat.le_refl _) _
    exact ⟨HS3.out.keep hb4, Box.new w3 k n ⟨#[]⟩, HX3.out.keep hb4, HR3.out.trans (RF.of_below hb4 HS3.out.plt), hw3⟩
  intro w6 ha
  have HA := Lib.hid ha
  clear ha
  refine held_begin (by kernel_rfl) ?_
  refine held_take (i := 0) (v := ?_) rfl rfl (by kernel_rfl) (by kernel_rfl) (by kernel_rfl) (fun _ _ _ h => h) (by rfl) ?_ ?_
  rotate_left
  · intro W hW
    go_simp
    try with_reducible rfl
  simp only [Act.put, List.setIfInBounds_toArray, List.set_cons_zero, List.set_cons_succ]
  refine held_take (i := 1) (v := ?_) rfl rfl (by kernel_rfl) (by kernel_rfl) (by kernel_rfl) (fun _ _ _ h => h) (by rfl) ?_ ?_
  rotate_left
  · intro W hW
    go_simp
    try with_reducible rfl
  simp only [Act.put, List.setIfInBounds_toArray, List.set_cons_zero, List.set_cons_succ]
  refine held_take (i := 2) (v := ?_) rfl rfl (by kernel_rfl) (by kernel_rfl) (by kernel_rfl) (fun _ _ _ h => h) (by rfl) ?_ ?_
  rotate_left
  · intro W hW
    go_simp
    try with_reducible rfl
  simp only [Act.put, List.setIfInBounds_toArray, List.set_cons_zero, List.set_cons_succ]
  refine held_take (i := 3) (v := ?_) rfl rfl (by kernel_rfl) (by kernel_rfl) (by kernel_rfl) (fun _ _ _ h => h) (by rfl) ?_ ?_
  rotate_left
  · intro W hW
    obtain ⟨q0, q1, q2, _, _, _⟩ := ((HA.out.keep (⟨rfl, rfl, rfl, Nat.le_refl _, fun _ _ => rfl⟩ : Below w6.heap.size w6 w6.drew)).box.keep hW).cells
    go_simp
    try with_reducible rfl
  simp only [Act.put, List.setIfInBounds_toArray, List.set_cons_zero, List.set_cons_succ]
  refine held_call (i := 4) (by kernel_rfl) rfl (fun K' hK => ?_)
  go_simp
  refine (content_b (HA.out.keep (⟨rfl, rfl, rfl, Nat.le_refl _, fun _ _ => rfl⟩ : Below w6.heap.size w6 w6.drew)).rds k n ⟨#[]⟩ HE.out HN0 HK0 HK1 HK7.out HDS).mono ?_
  rintro e w7 ⟨rfl, hb⟩
  refine hK.out _ _ hb ?_
  clear hK K'
  have HA7 := Lib.hid ((HA.out.keep (⟨rfl, rfl, rfl, Nat.le_refl _, fun _ _ => rfl⟩ : Below w6.heap.size w6 w6.drew)).keep hb)
  clear hb
  refine held_take (i := 5) (v := ?_) rfl rfl (by kernel_rfl) (by kernel_rfl) (by kernel_rfl) (fun _ _ _ h => h) (by rfl) ?_ ?_
  rotate_left
  · intro W hW
    go_simp
    try with_reducible rfl
  simp only [Act.put, List.setIfInBounds_toArray, List.set_cons_zero, List.set_cons_succ]
  refine wpAnyH_done (by kernel_rfl) ?_ _
  obtain ⟨y0, y1, y2, f0, f1, f2⟩ := HA7.out.res.cells
  go_wp2
  refine bodyPost_ret (v := .tuple #[itemV 0 0 ⟨#[]⟩, .int .i64 er]) (by simp [results, Tryd.results44, go_sem, y0, y1, y2]) rfl ⟨rfl, ?_, fun h0 => absurd h0 he⟩
  exact ((HA7.out.rf.setNew (Nat.le_refl _) hp _ _).setNew (Nat.le_refl _) hp _ _).setNew (Nat.le_refl _) hp _ _

set_option maxHeartbeats 2000000 in
theorem itm_data_ok (p base c : Nat) (s : List Lv) (A : Option Addr) (N cap a a2 nn : Nat) (zs : List Int) (k n : Int) (w : World) (h : RdS w p base c s A N cap a zs) (hh : headE zs N a = (k, n, 0, a2)) (hpl : placeE c s k = 0) (hL : tooLargeB k n = false) (hD : hasDataB k = true) (hn : a2 + nn ≤ N) (hnn : n = nn) (hn1 : nn ≤ 1024) (hk0 : 1 ≤ k) (hk1 : k ≤ 8) (hn0 : 0 ≤ n) (hk7 : k = 7 → (0 : Int) ≤ 1) (hE : contentE s k 0 (strOfNums ((zs.drop a2).take nn)) = 0) :
    Calls Tryd.prog 44 #[.pointer (some ⟨p, 0, none⟩)] w (ItemP p base c s A N cap zs (0, ⟨k, 0, (strOfNums ((zs.drop a2).take nn))⟩, (a2 + nn)) w) := by
  subst hnn
  have hp := h.plt
  have hb0 : Below w.heap.size w (w.alloc (.cells #[.int .i64 0, .int .u64 0, .string ⟨#[]⟩] 58)) := (Below.refl _ w).alloc (Nat.le_refl _) _
  have h0 := h.keep hb0
  have hH := hed_any p A N cap a zs _ h0.rd h0.by_
  rw [hh] at hH
  have HH := Lib.hid hH
  have HX := Lib.hid (Box.new w 0 0 ⟨#[]⟩)
  have HR0 := Lib.hid (RF.of_below hb0 hp)
  have HS0 := Lib.hid h0
  have HP := Lib.hid hpl
  have HL := Lib.hid hL
  have HD := Lib.hid hD
  have HE := Lib.hid hE
  have HN0 : (0 : Int) ≤ 0 := by omega
  have HK0 := hk0
  have HK1 := hk1
  have HK7 := Lib.hid hk7
  have HDS : (strOfNums ((zs.drop a2).take nn)).size ≤ 1100 := by rw [strOfNums_size]; simp; omega
  generalize hD2 : strOfNums ((zs.drop a2).take nn) = D2 at *
  have HD2 := Lib.hid hD2
  clear hD2
  have HWW := Lib.hid h
  clear h h0 hH hb0 hh hpl hL hD hE hk7
  go_enter Tryd.func44, Tryd.ntmps44
  go_wp2_with (first
    | (go_at_call 64; refine HH.out.mono ?_; rintro e w2 ⟨rfl, hr2, hd2⟩; have hs2 := HS0.out.rf hr2 (hd2 rfl); have hx2 := HX.out.rf hr2 (by omega); have HR2 := Lib.hid hr2; have HS2 := Lib.hid hs2; have HX2 := Lib.hid hx2; clear hr2 hx2 hd2 hs2)
    | fail)
  refine (place_b HS2.out k HP.out).mono ?_
  rintro e w3 ⟨rfl, hb3⟩
  have hs3 := HS2.out.keep hb3
  have hx3 := HX2.out.keep hb3
  have HR3 := Lib.hid ((HR0.out.trans HR2.out).trans (RF.of_below hb3 HS2.out.plt))
  have HS3 := Lib.hid hs3
  have HX3 := Lib.hid hx3
  clear hb3 hs3 hx3
  go_wp2_with (first
    | (go_at_call 57; refine (tooLarge_any _ _ _).mono ?_; rintro e w4 ⟨rfl, rfl⟩; rw [HL.out])
    | (go_at_call 65; refine (hasData_any _ _).mono ?_; rintro e w5 ⟨rfl, rfl⟩; rw [HD.out])
    | fail)
  have hb4 : Below w3.heap.size w3 (w3.alloc (.cells #[.int .i64 k, .int .u64 nn, .string ⟨#[]⟩] 58)) := (Below.refl _ w3).alloc (Nat.le_refl _) _
  have hs4 := HS3.out.keep hb4
  refine (tak_yes p A N cap a2 nn _ hs4.rd hn).mono ?_
  rintro e w5 ⟨rfl, hr5, hd5⟩
  have hs5 := hs4.rf hr5 hd5
  have hcv := conv_bys (cap := cap - a2) (hs5.by_.1.cut a2 nn hn hs5.rd.hcap)
  rw [HD2.out] at hcv
  have hbx := (Box.new w3 k nn ⟨#[]⟩).rf hr5 (by have := HS3.out.plt; omega)
  have hx5 := (HX3.out.keep hb4).rf hr5 (by omega)
  have hr35 := (RF.of_below hb4 HS3.out.plt).trans hr5
  have hw3 := HX3.out.lt
  have hp3 := HS3.out.plt
  have HS5 := Lib.hid hs5
  have HBX := Lib.hid hbx
  have HX5 := Lib.hid hx5
  have HR35 := Lib.hid hr35
  obtain ⟨g0, g1, g2, u0, u1, u2⟩ := hbx.cells
  clear hb4 hs4 hr5 hd5 hs5 hbx hx5 hr35
  go_wp2
  refine gen_world (fun W => Ahead w W p base c s A N cap (a2 + nn) zs w3.heap.size k 0 D2 ∧ (∀ W0 : World, True)) ⟨⟨?_, HBX.out.set3, ?_, ?_, hw3⟩, fun _ => trivial⟩ ?_
  · exact HS3.out.rf (((HR35.out.setNew (Nat.le_refl _) hp3 _ _).setNew (Nat.le_refl _) hp3 _ _).setNew (Nat.le_refl _) hp3 _ _) (((HS5.out.rd.far (by omega) _ _).far (by omega) _ _).far (by omega) _ _)
  · exact ((HX5.out.far (by omega) _ _).far (by omega) _ _).far (by omega) _ _
  · exact HR3.out.trans (((HR35.out.setNew (Nat.le_refl _) hp3 _ _).setNew (Nat.le_refl _) hp3 _ _).setNew (Nat.le_refl _) hp3 _ _)
  intro w6 ⟨ha, _⟩
  have HA := Lib.hid ha
  clear ha g0 g1 g2 u0 u1 u2 hcv
  refine held_begin (by kernel_rfl) ?_
  refine held_take (i := 0) (v := ?_) rfl rfl (by kernel_rfl) (by kernel_rfl) (by kernel_rfl) (fun _ _ _ h => h) (by rfl) ?_ ?_
  rotate_left
  · intro W hW
    go_simp
    try with_reducible rfl
  simp only [Act.put, List.setIfInBounds_toArray, List.set_cons_zero, List.set_cons_succ]
  refine held_take (i := 1) (v := ?_) rfl rfl (by kernel_rfl) (by kernel_rfl) (by kernel_rfl) (fun _ _ _ h => h) (by rfl) ?_ ?_
  rotate_left
  · intro W hW
    go_simp
    try with_reducible rfl
  simp only [Act.put, List.setIfInBounds_toArray, List.set_cons_zero, List.set_cons_succ]
  refine held_take (i := 2) (v := ?_) rfl rfl (by kernel_rfl) (by kernel_rfl) (by kernel_rfl) (fun _ _ _ h => h) (by rfl) ?_ ?_
  rotate_left
  · intro W hW
    go_simp
    try with_reducible rfl
  simp only [Act.put, List.setIfInBounds_toArray, List.set_cons_zero, List.set_cons_succ]
  refine held_take (i := 3) (v := ?_) rfl rfl (by kernel_rfl) (by kernel_rfl) (by kernel_rfl) (fun _ _ _ h => h) (by rfl) ?_ ?_
  rotate_left
  · intro W hW
    obtain ⟨q0, q1, q2, _, _, _⟩ := ((HA.out.keep (⟨rfl, rfl, rfl, Nat.le_refl _, fun _ _ => rfl⟩ : Below w6.heap.size w6 w6.drew)).box.keep hW).cells
    go_simp
    try with_reducible rfl
  simp only [Act.put, List.setIfInBounds_toArray, List.set_cons_zero, List.set_cons_succ]
  refine held_call (i := 4) (by kernel_rfl) rfl (fun K' hK => ?_)
  go_simp
  refine (content_b (HA.out.keep (⟨rfl, rfl, rfl, Nat.le_refl _, fun _ _ => rfl⟩ : Below w6.heap.size w6 w6.drew)).rds k 0 D2 HE.out HN0 HK0 HK1 HK7.out HDS).mono ?_
  rintro e w7 ⟨rfl, hb⟩
  refine hK.out _ _ hb ?_
  clear hK K'
  have HA7 := Lib.hid ((HA.out.keep (⟨rfl, rfl, rfl, Nat.le_refl _, fun _ _ => rfl⟩ : Below w6.heap.size w6 w6.drew)).keep hb)
  clear hb
  refine held_take (i := 5) (v := ?_) rfl rfl (by kernel_rfl) (by kernel_rfl) (by kernel_rfl) (fun _ _ _ h => h) (by rfl) ?_ ?_
  rotate_left
  · intro W hW
    go_simp
    try with_reducible rfl
  simp only [Act.put, List.setIfInBounds_toArray, List.set_cons_zero, List.set_cons_succ]
  refine wpAnyH_done (by kernel_rfl) ?_ _
  obtain ⟨y0, y1, y2, f0, f1, f2⟩ := HA7.out.res.cells
  obtain ⟨z0, z1, z2, _, _, _⟩ := HA7.out.box.cells
  go_wp2
  refine bodyPost_ret (v := .tuple #[itemV k 0 D2, .int .i64 0]) (by simp [results, Tryd.results44, go_sem, y0, y1, y2]) rfl ⟨rfl, ?_, fun _ => ?_⟩
  · exact ((HA7.out.rf.setNew (Nat.le_refl _) hp _ _).setNew (Nat.le_refl _) hp _ _).setNew (Nat.le_refl _) hp _ _
  · exact HWW.out.rf (((HA7.out.rf.setNew (Nat.le_refl _) hp _ _).setNew (Nat.le_refl _) hp _ _).setNew (Nat.le_refl _) hp _ _) (((HA7.out.rds.rd.far (by omega) _ _).far (by omega) _ _).far (by omega) _ _)

set_option maxHeartbeats 2000000 in
theorem itm_plain_ok (p base c : Nat) (s : List Lv) (A : Option Addr) (N cap a a2 : Nat) (zs : List Int) (k n : Int) (w : World) (h : RdS w p base c s A N cap a zs) (hh : headE zs N a = (k, n, 0, a2)) (hpl : placeE c s k = 0) (hL : tooLargeB k n = false) (hD : hasDataB k = false) (hk0 : 1 ≤ k) (hk1 : k ≤ 8) (hn0 : 0 ≤ n) (hk7 : k = 7 → (n : Int) ≤ 1) (hE : contentE s k n ⟨#[]⟩ = 0) :
    Calls Tryd.prog 44 #[.pointer (some ⟨p, 0, none⟩)] w (ItemP p base c s A N cap zs (0, ⟨k, n, ⟨#[]⟩⟩, a2) w) := by
  have hp := h.plt
  have hb0 : Below w.heap.size w (w.alloc (.cells #[.int .i64 0, .int .u64 0, .string ⟨#[]⟩] 58)) := (Below.refl _ w).alloc (Nat.le_refl _) _
  have h0 := h.keep hb0
  have hH := hed_any p A N cap a zs _ h0.rd h0.by_
  rw [hh] at hH
  have HH := Lib.hid hH
  have HX := Lib.hid (Box.new w 0 0 ⟨#[]⟩)
  have HR0 := Lib.hid (RF.of_below hb0 hp)
  have HS0 := Lib.hid h0
  have HP := Lib.hid hpl
  have HL := Lib.hid hL
  have HD := Lib.hid hD
  have HE := Lib.hid hE
  have HN0 : (0 : Int) ≤ n := by omega
  have HK0 := hk0
  have HK1 := hk1
  have HK7 := Lib.hid hk7
  have HDS : (⟨#[]⟩ : ByteArray).size ≤ 1100 := by decide
  have HWW := Lib.hid h
  clear h h0 hH hb0 hh hpl hL hD hE hk7
  go_enter Tryd.func44, Tryd.ntmps44
  go_wp2_with (first
    | (go_at_call 64; refine HH.out.mono ?_; rintro e w2 ⟨rfl, hr2, hd2⟩; have hs2 := HS0.out.rf hr2 (hd2 rfl); have hx2 := HX.out.rf hr2 (by omega); have HR2 := Lib.hid hr2; have HS2 := Lib.hid hs2; have HX2 := Lib.hid hx2; clear hr2 hx2 hd2 hs2)
    | fail)
  refine (place_b HS2.out k HP.out).mono ?_
  rintro e w3 ⟨rfl, hb3⟩
  have hs3 := HS2.out.keep hb3
  have hx3 := HX2.out.keep hb3
  have HR3 := Lib.hid ((HR0.out.trans HR2.out).trans (RF.of_below hb3 HS2.out.plt))
  have HS3 := Lib.hid hs3
  have HX3 := Lib.hid hx3
  clear hb3 hs3 hx3
  go_wp2_with (first
    | (go_at_call 57; refine (tooLarge_any _ _ _).mono ?_; rintro e w4 ⟨rfl, rfl⟩; rw [HL.out])
    | (go_at_call 65; refine (hasData_any _ _).mono ?_; rintro e w5 ⟨rfl, rfl⟩; rw [HD.out])
    | fail)
  have hw3 := HX3.out.lt
  refine gen_world (fun W => Ahead w W p base c s A N cap a2 zs w3.heap.size k n ⟨#[]⟩) ?_ ?_
  · have hb4 : Below w3.heap.size w3 (w3.alloc (.cells #[.int .i64 k, .int .u64 n, .string ⟨#[]⟩] 58)) := (Below.refl _ w3).alloc (Nat.le_refl _) _
    exact ⟨HS3.out.keep hb4, Box.new w3 k n ⟨#[]⟩, HX3.out.keep hb4, HR3.out.trans (RF.of_below hb4 HS3.out.plt), hw3⟩
  intro w6 ha
  have HA := Lib.hid ha
  clear ha
  refine held_begin (by kernel_rfl) ?_
  refine held_take (i := 0) (v := ?_) rfl rfl (by kernel_rfl) (by kernel_rfl) (by kernel_rfl) (fun _ _ _ h => h) (by rfl) ?_ ?_
  rotate_left
  · intro W hW
    go_simp
    try with_reducible rfl
  simp only [Act.put, List.setIfInBounds_toArray, List.set_cons_zero, List.set_cons_succ]
  refine held_take (i := 1) (v := ?_) rfl rfl (by kernel_rfl) (by kernel_rfl) (by kernel_rfl) (fun _ _ _ h => h) (by rfl) ?_ ?_
  rotate_left
  · intro W hW
    go_simp
    try with_reducible rfl
  simp only [Act.put, List.setIfInBounds_toArray, List.set_cons_zero, List.set_cons_succ]
  refine held_take (i := 2) (v := ?_) rfl rfl (by kernel_rfl) (by kernel_rfl) (by kernel_rfl) (fun _ _ _ h => h) (by rfl) ?_ ?_
  rotate_left
  · intro W hW
    go_simp
    try with_reducible rfl
  simp only [Act.put, List.setIfInBounds_toArray, List.set_cons_zero, List.set_cons_succ]
  refine held_take (i := 3) (v := ?_) rfl rfl (by kernel_rfl) (by kernel_rfl) (by kernel_rfl) (fun _ _ _ h => h) (by rfl) ?_ ?_
  rotate_left
  · intro W hW
    obtain ⟨q0, q1, q2, _, _, _⟩ := ((HA.out.keep (⟨rfl, rfl, rfl, Nat.le_refl _, fun _ _ => rfl⟩ : Below w6.heap.size w6 w6.drew)).box.keep hW).cells
    go_simp
    try with_reducible rfl
  simp only [Act.put, List.setIfInBounds_toArray, List.set_cons_zero, List.set_cons_succ]
  refine held_call (i := 4) (by kernel_rfl) rfl (fun K' hK => ?_)
  go_simp
  refine (content_b (HA.out.keep (⟨rfl, rfl, rfl, Nat.le_refl _, fun _ _ => rfl⟩ : Below w6.heap.size w6 w6.drew)).rds k n ⟨#[]⟩ HE.out HN0 HK0 HK1 HK7.out HDS).mono ?_
  rintro e w7 ⟨rfl, hb⟩
  refine hK.out _ _ hb ?_
  clear hK K'
  have HA7 := Lib.hid ((HA.out.keep (⟨rfl, rfl, rfl, Nat.le_refl _, fun _ _ => rfl⟩ : Below w6.heap.size w6 w6.drew)).keep hb)
  clear hb
  refine held_take (i := 5) (v := ?_) rfl rfl (by kernel_rfl) (by kernel_rfl) (by kernel_rfl) (fun _ _ _ h => h) (by rfl) ?_ ?_
  rotate_left
  · intro W hW
    go_simp
    try with_reducible rfl
  simp only [Act.put, List.setIfInBounds_toArray, List.set_cons_zero, List.set_cons_succ]
  refine wpAnyH_done (by kernel_rfl) ?_ _
  obtain ⟨y0, y1, y2, f0, f1, f2⟩ := HA7.out.res.cells
  obtain ⟨z0, z1, z2, _, _, _⟩ := HA7.out.box.cells
  go_wp2
  refine bodyPost_ret (v := .tuple #[itemV k n ⟨#[]⟩, .int .i64 0]) (by simp [results, Tryd.results44, go_sem, y0, y1, y2]) rfl ⟨rfl, ?_, fun _ => ?_⟩
  · exact ((HA7.out.rf.setNew (Nat.le_refl _) hp _ _).setNew (Nat.le_refl _) hp _ _).setNew (Nat.le_refl _) hp _ _
  · exact HWW.out.rf (((HA7.out.rf.setNew (Nat.le_refl _) hp _ _).setNew (Nat.le_refl _) hp _ _).setNew (Nat.le_refl _) hp _ _) (((HA7.out.rds.rd.far (by omega) _ _).far (by omega) _ _).far (by omega) _ _)

end Go.Proofs.YtepinmeidjlmmaaDoor

/- A reader over any bytes: the item as one contract. -/
namespace Go.Proofs.YtepinmeidjlmmaaDoor
open Go.RowKit
set_option maxRecDepth 100000

/-- the item at a behind its head: error, item, the place behind it -/
def bodyE (zs : List Int) (N c : Nat) (s : List Lv) (a : Nat) (h : Int × Int × Int × Nat) : Int × It × Nat :=
  if h.2.2.1 ≠ 0 then (h.2.2.1, noIt, a)
  else if placeE c s h.1 ≠ 0 then (placeE c s h.1, noIt, a)
  else if tooLargeB h.1 h.2.1 = true then (8, noIt, a)
  else if hasDataB h.1 = true then
    (if (N : Int) < h.2.2.2 + h.2.1 then (1, noIt, a)
     else if contentE s h.1 0 (strOfNums ((zs.drop h.2.2.2).take h.2.1.toNat)) ≠ 0 then (contentE s h.1 0 (strOfNums ((zs.drop h.2.2.2).take h.2.1.toNat)), noIt, a)
     else (0, ⟨h.1, 0, strOfNums ((zs.drop h.2.2.2).take h.2.1.toNat)⟩, h.2.2.2 + h.2.1.toNat))
  else if contentE s h.1 h.2.1 ⟨#[]⟩ ≠ 0 then (contentE s h.1 h.2.1 ⟨#[]⟩, noIt, a)
  else (0, ⟨h.1, h.2.1, ⟨#[]⟩⟩, h.2.2.2)
def itemE (zs : List Int) (N c : Nat) (s : List Lv) (a : Nat) : Int × It × Nat := bodyE zs N c s a (headE zs N a)

theorem data_le {k n : Int} (h : tooLargeB k n = false) (hd : hasDataB k = true) : n ≤ 1024 := by
  unfold tooLargeB at h
  simp [hd] at h
  exact h.1

theorem itm_any (p base c : Nat) (s : List Lv) (A : Option Addr) (N cap a : Nat) (zs : List Int) (w : World) (h : RdS w p base c s A N cap a zs) :
    Calls Tryd.prog 44 #[.pointer (some ⟨p, 0, none⟩)] w (ItemP p base c s A N cap zs (itemE zs N c s a) w) := by
  unfold itemE
  obtain ⟨k, n, er, a2, hh⟩ : ∃ k n er a2, headE zs N a = (k, n, er, a2) := ⟨_, _, _, _, rfl⟩
  rw [hh]
  unfold bodyE
  dsimp only
  by_cases he : er = 0
  · subst he
    rw [if_neg (by simp)]
    obtain ⟨k1, k8, n0, n64, h7, _, hlt, hle⟩ := head_ok h.by_.1.rng h.by_.1.len hh
    by_cases hp : placeE c s k = 0
    · rw [if_neg (by simp [hp])]
      by_cases hL : tooLargeB k n = true
      · rw [if_pos hL]
        exact itm_large p base c s A N cap a a2 zs k n w h hh hp hL
      rw [if_neg hL]
      have hL' : tooLargeB k n = false := by simpa using hL
      by_cases hD : hasDataB k = true
      · rw [if_pos hD]
        by_cases hs : (N : Int) < a2 + n
        · rw [if_pos hs]
          exact itm_short p base c s A N cap a a2 zs k n w h hh hp hL' hD hs n64
        rw [if_neg hs]
        have hn1 := data_le hL' hD
        obtain ⟨nn, rfl⟩ := Int.eq_ofNat_of_zero_le n0
        rw [Int.toNat_natCast]
        by_cases hE : contentE s k 0 (strOfNums ((zs.drop a2).take nn)) = 0
        · rw [if_neg (by simp [hE])]
          exact itm_data_ok p base c s A N cap a a2 nn zs k nn w h hh hp hL' hD (by omega) rfl (by omega) k1 k8 n0 (fun _ => by omega) hE
        · rw [if_pos hE]
          exact itm_data_err p base c s A N cap a a2 nn zs k nn _ w h hh hp hL' hD (by omega) rfl (by omega) k1 k8 n0 (fun _ => by omega) rfl hE
      rw [if_neg hD]
      have hD' : hasDataB k = false := by simpa using hD
      by_cases hE : contentE s k n ⟨#[]⟩ = 0
      · rw [if_neg (by simp [hE])]
        exact itm_plain_ok p base c s A N cap a a2 zs k n w h hh hp hL' hD' k1 k8 n0 h7 hE
      · rw [if_pos hE]
        exact itm_plain_err p base c s A N cap a a2 zs k n _ w h hh hp hL' hD' k1 k8 n0 h7 rfl hE
    · rw [if_pos hp]
      exact itm_place p base c s A N cap a a2 zs k n _ w h hh rfl hp
  · rw [if_pos he]
    exact itm_head p base c s A N cap a a2 zs k n er w h hh he

theorem shape_head {k n : Int} (h8 : k = 8 → n = 0) (h7 : k = 7 → n ≤ 1) (hD : hasDataB k = false) : shapeB k n ⟨#[]⟩ = true := by
  unfold hasDataB at hD
  simp at hD
  rw [shape_sw (by rintro ⟨h, _⟩; rw [Lib.toList_data] at h; cases h)]
  by_cases e8 : k = 8
  · rw [if_pos (by omega), h8 e8]; rfl
  · rw [if_neg (by omega)]
    by_cases e7 : k = 7
    · rw [if_pos e7]; simpa using h7 e7
    · rw [if_neg e7]
theorem shape_data {k : Int} (d : ByteArray) (hD : hasDataB k = true) : shapeB k 0 d = true := by
  have h34 : k = 3 ∨ k = 4 := by unfold hasDataB at hD; simpa using hD
  rw [shape_sw (by rintro ⟨_, h⟩; rw [hD] at h; cases h), if_pos (by omega)]
  rfl

/-- an item that is read is one that 'check' lets pass -/
theorem item_ok {zs : List Int} {N c : Nat} {s : List Lv} {a : Nat} (hr : ∀ z ∈ zs, 0 ≤ z ∧ z ≤ 255) (hl : zs.length = N) (hc : compB c s = false) {x : It} {a3 : Nat} (h : itemE zs N c s a = (0, x, a3)) :
    checkE c s x.k x.n x.d = 0 ∧ 0 ≤ x.n ∧ a < a3 ∧ a3 ≤ N := by
  unfold itemE at h
  obtain ⟨k, n, er, a2, hh⟩ : ∃ k n er a2, headE zs N a = (k, n, er, a2) := ⟨_, _, _, _, rfl⟩
  rw [hh] at h
  unfold bodyE at h
  dsimp only at h
  by_cases he : er = 0
  · subst he
    rw [if_neg (by simp)] at h
    obtain ⟨k1, k8, n0, n64, h7, h8, hlt, hle⟩ := head_ok hr hl hh
    by_cases hp : placeE c s k = 0
    · rw [if_neg (by simp [hp])] at h
      by_cases hL : tooLargeB k n = true
      · rw [if_pos hL] at h; simp at h
      rw [if_neg hL] at h
      have hL' : tooLargeB k n = false := by simpa using hL
      by_cases hD : hasDataB k = true
      · rw [if_pos hD] at h
        by_cases hs : (N : Int) < a2 + n
        · rw [if_pos hs] at h; simp at h
        rw [if_neg hs] at h
        have hn1 := data_le hL' hD
        obtain ⟨nn, rfl⟩ := Int.eq_ofNat_of_zero_le n0
        rw [Int.toNat_natCast] at h
        by_cases hE : contentE s k 0 (strOfNums ((zs.drop a2).take nn)) = 0
        · rw [if_neg (by simp [hE])] at h
          simp only [Prod.mk.injEq, true_and] at h
          obtain ⟨rfl, rfl⟩ := h
          have harg : argN k 0 (strOfNums ((zs.drop a2).take nn)) = nn := by
            unfold argN; rw [if_pos hD, strOfNums_size]; simp; omega
          refine ⟨?_, Int.le_refl _, by omega, by omega⟩
          rw [checkC hc hp (shape_data _ hD) (by rw [harg]; exact hL')]
          exact hE
        · rw [if_pos hE] at h
          simp only [Prod.mk.injEq] at h
          exact absurd h.1 hE
      · rw [if_neg hD] at h
        have hD' : hasDataB k = false := by simpa using hD
        by_cases hE : contentE s k n ⟨#[]⟩ = 0
        · rw [if_neg (by simp [hE])] at h
          simp only [Prod.mk.injEq, true_and] at h
          obtain ⟨rfl, rfl⟩ := h
          have harg : argN k n ⟨#[]⟩ = n := by unfold argN; rw [if_neg hD]
          refine ⟨?_, n0, hlt, hle⟩
          rw [checkC hc hp (shape_head h8 h7 hD') (by rw [harg]; exact hL')]
          exact hE
        · rw [if_pos hE] at h
          simp only [Prod.mk.injEq] at h
          exact absurd h.1 hE
    · rw [if_pos hp] at h
      simp only [Prod.mk.injEq] at h
      exact absurd h.1 hp
  · rw [if_pos he] at h
    simp only [Prod.mk.injEq] at h
    exact absurd h.1 he
end Go.Proofs.YtepinmeidjlmmaaDoor
