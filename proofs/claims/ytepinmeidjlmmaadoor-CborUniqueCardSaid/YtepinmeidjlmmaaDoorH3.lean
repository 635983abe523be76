/- A reader over any bytes: the head of an item. -/
import Derived.Test.YtepinmeidjlmmaaDoorH2
namespace Go.Proofs.YtepinmeidjlmmaaDoor
open Go.RowKit
set_option maxRecDepth 100000

theorem and31 (x : Int) (h0 : 0 ≤ x) (h1 : x ≤ 255) : bits .and .u8 x 31 = x % 32 := by
  have key : ∀ a : Fin 256, bits BinOp.and IntKind.u8 ((a.val : Nat) : Int) 31 = ((a.val : Nat) : Int) % 32 := by decide +kernel
  have := key ⟨x.toNat, by omega⟩
  simpa [Int.toNat_of_nonneg h0] using this
theorem getD_drop (zs : List Int) (a i : Nat) : (zs.drop a).getD i 0 = zs.getD (a + i) 0 := by simp [List.getD, List.getElem?_drop]

abbrev HeadV (k n e : Int) : Ending := .returned (.tuple #[.int .i64 k, .int .u64 n, .int .i64 e])

set_option maxHeartbeats 1000000 in
theorem hed_short (p : Nat) (A : Option Addr) (N cap : Nat) (w : World) (h : Rd w p A N cap N) :
    Calls Tryd.prog 64 #[.pointer (some ⟨p, 0, none⟩)] w fun e w' => e = HeadV 0 0 1 ∧ RF p w w' := by
  have HT := Lib.hid (tak_no p A N cap N 1 w h (by omega) (by omega))
  clear h
  go_enter Tryd.func64, Tryd.ntmps64
  go_wp2_with (go_at_call 66; refine HT.out.mono ?_; rintro e w' ⟨rfl, m, rfl⟩)
  go_ret3
  refine ⟨rfl, ?_⟩
  exact ⟨rfl, rfl, rfl, Nat.le_refl _, fun _ _ _ => rfl, fun _ _ => rfl, fun _ => rfl⟩

/-- what a byte at the reader's place is good for -/
structure One (w : World) (p : Nat) (A : Option Addr) (N cap at' : Nat) (x : Int) (zs : List Int) : Prop where
  rd : Rd w p A N cap at'
  by_ : BysB w p A N zs
  lt : at' < N
  x0 : 0 ≤ x
  x1 : x ≤ 255
  at_ : zs.getD at' 0 = x
theorem One.take {w : World} {p : Nat} {A : Option Addr} {N cap at' : Nat} {x : Int} {zs : List Int} (h : One w p A N cap at' x zs) :
    Calls Tryd.prog 66 #[.pointer (some ⟨p, 0, none⟩), .int .u64 1] w fun e w' => (∃ a, e = .returned (.tuple #[.slice (some a) 1 (cap - at'), .bool true]) ∧ w'.cell? a = some (.int .u8 x)) ∧ RF p w w' ∧ Rd w' p A N cap (at' + 1) := by
  have hp := cell_in h.rd.pos
  refine (tak_yes p A N cap at' 1 w h.rd h.lt).mono ?_
  rintro e w' ⟨rfl, hr, hd⟩
  refine ⟨?_, hr, hd⟩
  have hc := (h.by_.below (hr.below (Nat.le_of_lt hp))).1.cut at' 1 h.lt h.rd.hcap
  obtain ⟨a, e, hcell⟩ := hc.at_ 0 (by omega)
  refine ⟨a, by rw [e], ?_⟩
  have e1 : a.add 0 = a := by unfold Addr.add; rw [if_pos rfl]
  rw [e1] at hcell
  rw [hcell]
  have : ((zs.drop at').take 1).getD 0 0 = x := by
    rw [← h.at_]
    simp [List.getD, List.getElem?_drop]
  rw [this]

set_option maxHeartbeats 1000000 in
theorem hed_one (p : Nat) (A : Option Addr) (N cap at' : Nat) (x : Int) (zs : List Int) (w : World) (h : One w p A N cap at' x zs) (hx : x = 244 ∨ x = 245 ∨ x = 246) :
    Calls Tryd.prog 64 #[.pointer (some ⟨p, 0, none⟩)] w fun e w' => e = HeadV (if x = 246 then 8 else 7) (if x = 245 then 1 else 0) 0 ∧ RF p w w' ∧ Rd w' p A N cap (at' + 1) := by
  have HT := Lib.hid h.take
  clear h
  rcases hx with rfl | rfl | rfl
  all_goals
    go_enter Tryd.func64, Tryd.ntmps64
    go_wp2_with (go_at_call 66; refine HT.out.mono ?_; rintro e w' ⟨⟨a, rfl, hc⟩, hr, hd⟩)
    go_ret3
    exact ⟨rfl, hr, hd⟩

set_option maxHeartbeats 1000000 in
theorem hed_bad (p : Nat) (A : Option Addr) (N cap at' : Nat) (x m l : Int) (zs : List Int) (w : World) (h : One w p A N cap at' x zs) (hx : x ≠ 244 ∧ x ≠ 245 ∧ x ≠ 246) (hm : x / 32 = m) (hl : x % 32 = l) (hbad : 6 < 1 + m ∨ 27 < l) :
    Calls Tryd.prog 64 #[.pointer (some ⟨p, 0, none⟩)] w fun e w' => e = HeadV 0 0 2 ∧ RF p w w' := by
  have HT := Lib.hid h.take
  have q0 := h.x0
  have q1 := h.x1
  have ha := and31 x h.x0 h.x1
  rw [hl] at ha
  have m0 : 0 ≤ m ∧ m ≤ 7 := by omega
  have l0 : 0 ≤ l ∧ l ≤ 31 := by omega
  have y1 : (x == 244) = false := by simp; omega
  have y2 : (x == 245) = false := by simp; omega
  have y3 : (x == 246) = false := by simp; omega
  clear h hx hl
  by_cases h6 : 6 < 1 + m
  · clear hbad
    go_enter Tryd.func64, Tryd.ntmps64
    go_wp2_with (go_at_call 66; refine HT.out.mono ?_; rintro e w' ⟨⟨a, rfl, hc⟩, hr, hd⟩)
    go_ret3
    exact ⟨rfl, hr⟩
  · have h27 : 27 < l := by omega
    clear hbad
    go_enter Tryd.func64, Tryd.ntmps64
    go_wp2_with (go_at_call 66; refine HT.out.mono ?_; rintro e w' ⟨⟨a, rfl, hc⟩, hr, hd⟩)
    go_ret3
    exact ⟨rfl, hr⟩

set_option maxHeartbeats 1000000 in
theorem hed_low (p : Nat) (A : Option Addr) (N cap at' : Nat) (x m l : Int) (zs : List Int) (w : World) (h : One w p A N cap at' x zs) (hm : x / 32 = m) (hl : x % 32 = l) (h6 : m ≤ 5) (h24 : l < 24) :
    Calls Tryd.prog 64 #[.pointer (some ⟨p, 0, none⟩)] w fun e w' => e = HeadV (1 + m) l 0 ∧ RF p w w' ∧ Rd w' p A N cap (at' + 1) := by
  have HT := Lib.hid h.take
  have q0 := h.x0
  have q1 := h.x1
  have ha := and31 x h.x0 h.x1
  rw [hl] at ha
  have m0 : 0 ≤ m ∧ m ≤ 7 := by omega
  have l0 : 0 ≤ l ∧ l ≤ 31 := by omega
  have y1 : (x == 244) = false := by simp; omega
  have y2 : (x == 245) = false := by simp; omega
  have y3 : (x == 246) = false := by simp; omega
  have h66 : ¬ 6 < 1 + m := by omega
  have h27 : ¬ 27 < l := by omega
  clear h hl
  go_enter Tryd.func64, Tryd.ntmps64
  go_wp2_with (go_at_call 66; refine HT.out.mono ?_; rintro e w' ⟨⟨a, rfl, hc⟩, hr, hd⟩)
  go_ret3
  exact ⟨rfl, hr, hd⟩

set_option maxHeartbeats 1000000 in
theorem hed_wshort (p : Nat) (A : Option Addr) (N cap at' : Nat) (x m : Int) (j : Nat) (zs : List Int) (w : World) (h : One w p A N cap at' x zs) (hm : x / 32 = m) (hl : x % 32 = 24 + j) (h6 : m ≤ 5) (hj : j < 4) (hN : N < at' + 1 + 2 ^ j) :
    Calls Tryd.prog 64 #[.pointer (some ⟨p, 0, none⟩)] w fun e w' => e = HeadV 0 0 1 ∧ RF p w w' := by
  have HT := Lib.hid h.take
  have q0 := h.x0
  have q1 := h.x1
  have ha := and31 x h.x0 h.x1
  rw [hl] at ha
  have m0 : 0 ≤ m ∧ m ≤ 7 := by omega
  have y1 : (x == 244) = false := by simp; omega
  have y2 : (x == 245) = false := by simp; omega
  have y3 : (x == 246) = false := by simp; omega
  have h66 : ¬ 6 < 1 + m := by omega
  clear h hl
  have h4 : j = 0 ∨ j = 1 ∨ j = 2 ∨ j = 3 := by omega
  rcases h4 with rfl | rfl | rfl | rfl
  all_goals
    have HW := Lib.hid (fun (W : World) (hW : Rd W p A N cap (at' + 1)) => wide_short p A N cap (at' + 1) _ W hW (by decide) hN)
    go_enter Tryd.func64, Tryd.ntmps64
    go_wp2_with (first | (go_at_call 66; refine HT.out.mono ?_; rintro e w' ⟨⟨a, rfl, hc⟩, hr, hd⟩) | (go_at_call 81; refine (HW.out _ hd).mono ?_; rintro e w9 ⟨rfl, k, rfl⟩))
    go_ret3
    exact ⟨rfl, hr.trans ⟨rfl, rfl, rfl, Nat.le_refl _, fun _ _ _ => rfl, fun _ _ => rfl, fun _ => rfl⟩⟩

/-- the argument of size bytes that follows the place at' -/
def widN (zs : List Int) (at' size : Nat) : Int := beTo ((zs.drop (at' + 1)).take size) size
set_option maxHeartbeats 1000000 in
theorem hed_wbad (p : Nat) (A : Option Addr) (N cap at' : Nat) (x m : Int) (j : Nat) (zs : List Int) (w : World) (h : One w p A N cap at' x zs) (hm : x / 32 = m) (hl : x % 32 = 24 + j) (h6 : m ≤ 5) (hj : j < 4) (hN : at' + 1 + 2 ^ j ≤ N)
    (hbad : ¬ argSz (widN zs at' (2 ^ j)) = ((2 ^ j : Nat) : Int)) :
    Calls Tryd.prog 64 #[.pointer (some ⟨p, 0, none⟩)] w fun e w' => e = HeadV 0 0 2 ∧ RF p w w' := by
  have HT := Lib.hid h.take
  have q0 := h.x0
  have q1 := h.x1
  have hp := cell_in h.rd.pos
  have HBy := Lib.hid (fun (W : World) (hW : RF p w W) => h.by_.below (hW.below (Nat.le_of_lt hp)))
  have ha := and31 x h.x0 h.x1
  rw [hl] at ha
  have m0 : 0 ≤ m ∧ m ≤ 7 := by omega
  have y1 : (x == 244) = false := by simp; omega
  have y2 : (x == 245) = false := by simp; omega
  have y3 : (x == 246) = false := by simp; omega
  have h66 : ¬ 6 < 1 + m := by omega
  clear h hl hp
  have h4 : j = 0 ∨ j = 1 ∨ j = 2 ∨ j = 3 := by omega
  rcases h4 with rfl | rfl | rfl | rfl
  all_goals
    have hwe := wid_bad hbad
    have HW := Lib.hid (fun (W : World) (hW : Rd W p A N cap (at' + 1)) (hB : BysB W p A N zs) => wide_full p A N cap (at' + 1) _ zs W hW hB (by decide) hN)
    rw [hwe] at HW
    clear hwe hbad
    go_enter Tryd.func64, Tryd.ntmps64
    go_wp2_with (first | (go_at_call 66; refine HT.out.mono ?_; rintro e w' ⟨⟨a, rfl, hc⟩, hr, hd⟩; have HR := Lib.hid hr; have HD := Lib.hid hd; clear hr hd) | (go_at_call 81; refine (HW.out _ HD.out (HBy.out _ HR.out)).mono ?_; rintro e w9 ⟨rfl, hr9, hd9⟩))
    go_ret3
    exact ⟨rfl, HR.out.trans hr9⟩
set_option maxHeartbeats 1000000 in
theorem hed_wide (p : Nat) (A : Option Addr) (N cap at' : Nat) (x m : Int) (j : Nat) (zs : List Int) (w : World) (h : One w p A N cap at' x zs) (hm : x / 32 = m) (hl : x % 32 = 24 + j) (h6 : m ≤ 5) (hj : j < 4) (hN : at' + 1 + 2 ^ j ≤ N)
    (hok : argSz (widN zs at' (2 ^ j)) = ((2 ^ j : Nat) : Int)) :
    Calls Tryd.prog 64 #[.pointer (some ⟨p, 0, none⟩)] w fun e w' => e = HeadV (1 + m) (widN zs at' (2 ^ j)) 0 ∧ RF p w w' ∧ Rd w' p A N cap (at' + 1 + 2 ^ j) := by
  have HT := Lib.hid h.take
  have q0 := h.x0
  have q1 := h.x1
  have hp := cell_in h.rd.pos
  have HBy := Lib.hid (fun (W : World) (hW : RF p w W) => h.by_.below (hW.below (Nat.le_of_lt hp)))
  have ha := and31 x h.x0 h.x1
  rw [hl] at ha
  have m0 : 0 ≤ m ∧ m ≤ 7 := by omega
  have y1 : (x == 244) = false := by simp; omega
  have y2 : (x == 245) = false := by simp; omega
  have y3 : (x == 246) = false := by simp; omega
  have h66 : ¬ 6 < 1 + m := by omega
  clear h hl hp
  have h4 : j = 0 ∨ j = 1 ∨ j = 2 ∨ j = 3 := by omega
  rcases h4 with rfl | rfl | rfl | rfl
  all_goals
    have hwe := wid_ok hok
    have HW := Lib.hid (fun (W : World) (hW : Rd W p A N cap (at' + 1)) (hB : BysB W p A N zs) => wide_full p A N cap (at' + 1) _ zs W hW hB (by decide) hN)
    rw [hwe] at HW
    clear hwe hok
    go_enter Tryd.func64, Tryd.ntmps64
    go_wp2_with (first | (go_at_call 66; refine HT.out.mono ?_; rintro e w' ⟨⟨a, rfl, hc⟩, hr, hd⟩; have HR := Lib.hid hr; have HD := Lib.hid hd; clear hr hd) | (go_at_call 81; refine (HW.out _ HD.out (HBy.out _ HR.out)).mono ?_; rintro e w9 ⟨rfl, hr9, hd9⟩))
    go_ret3
    exact ⟨rfl, HR.out.trans hr9, hd9⟩
end Go.Proofs.YtepinmeidjlmmaaDoor
