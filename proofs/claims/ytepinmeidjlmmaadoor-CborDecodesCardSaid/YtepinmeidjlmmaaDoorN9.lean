/- Joined: H2, H3, H4, Held, H5. -/
import Derived.Test.YtepinmeidjlmmaaDoorN8
import Derived.WalkKit
import Derived.Deep.RegionHeld3
/- A reader over any bytes: an argument that follows its first byte. -/
namespace Go.Proofs.YtepinmeidjlmmaaDoor
open Go.RowKit
set_option maxRecDepth 100000

/-- a number out of its bytes, the most significant one first -/
def beV : List Int → Int
  | [] => 0
  | x :: r => x * 256 ^ r.length + beV r
def beTo (ys : List Int) (k : Nat) : Int := (ys.take k).foldl (fun n x => n * 256 + x) 0
theorem beTo_succ {ys : List Int} {k : Nat} (h : k < ys.length) : beTo ys (k + 1) = beTo ys k * 256 + ys.getD k 0 := by
  unfold beTo
  rw [List.take_succ_eq_append_getElem h, List.foldl_append]
  simp [List.getD, List.getElem?_eq_getElem h]
theorem beTo_bd (ys : List Int) (hr : ∀ z ∈ ys, 0 ≤ z ∧ z ≤ 255) : ∀ k, k ≤ ys.length → 0 ≤ beTo ys k ∧ beTo ys k < 256 ^ k
  | 0, _ => by simp [beTo]
  | k + 1, h => by
    have ih := beTo_bd ys hr k (by omega)
    rw [beTo_succ (by omega)]
    have hx : 0 ≤ ys.getD k 0 ∧ ys.getD k 0 ≤ 255 := by
      simp only [List.getD, List.getElem?_eq_getElem (show k < ys.length by omega), Option.getD_some]
      exact hr _ (List.getElem_mem _)
    have hp : (256 : Int) ^ (k + 1) = 256 ^ k * 256 := Int.pow_succ _ _
    rw [hp]
    generalize beTo ys k = n at *
    generalize (256 : Int) ^ k = P at *
    omega
theorem or_step (n x : Int) (h0 : 0 ≤ n) (h1 : n < 72057594037927936) (hx0 : 0 ≤ x) (hx1 : x ≤ 255) : bits .or .u64 (IntKind.u64.wrap (n * 256)) x = n * 256 + x := by
  obtain ⟨N, rfl⟩ := Int.eq_ofNat_of_zero_le h0
  obtain ⟨X, rfl⟩ := Int.eq_ofNat_of_zero_le hx0
  have hw : IntKind.u64.wrap ((N : Int) * 256) = ((N * 256 : Nat) : Int) := by rw [IntKind.wrap_u64]; omega
  rw [hw]
  show IntKind.u64.wrap ((BitVec.ofInt 64 ((N * 256 : Nat) : Int) ||| BitVec.ofInt 64 (X : Int)).toNat : Int) = _
  rw [BitVec.ofInt_natCast, BitVec.ofInt_natCast, BitVec.toNat_or, BitVec.toNat_ofNat, BitVec.toNat_ofNat, Nat.mod_eq_of_lt (by omega), Nat.mod_eq_of_lt (by omega)]
  have e : N * 256 ||| X = N * 256 + X := by
    have := Nat.two_pow_add_eq_or_of_lt (i := 8) (show X < 2 ^ 8 by omega) N
    rw [show 2 ^ 8 * N = N * 256 by omega] at this
    exact this.symm
  rw [e, IntKind.wrap_u64]
  omega
def widE (ys : List Int) (size : Nat) : Int × Int := if argSz (beTo ys size) = (size : Int) then (beTo ys size, 0) else (0, 2)
theorem wid_ok {ys : List Int} {size : Nat} (h : argSz (beTo ys size) = (size : Int)) : widE ys size = (beTo ys size, 0) := by unfold widE; rw [if_pos h]
theorem wid_bad {ys : List Int} {size : Nat} (h : ¬ argSz (beTo ys size) = (size : Int)) : widE ys size = (0, 2) := by unfold widE; rw [if_neg h]

set_option maxHeartbeats 1000000 in
theorem wide_short (p : Nat) (A : Option Addr) (N cap at' size : Nat) (w : World) (h : Rd w p A N cap at') (hs : size ≤ 8) (hn : N < at' + size) :
    Calls Tryd.prog 81 #[.pointer (some ⟨p, 0, none⟩), .int .i64 size] w fun e w' => e = .returned (.tuple #[.int .u64 0, .int .i64 1]) ∧ ∃ m, w.drewN m = w' := by
  have HT := Lib.hid (tak_no p A N cap at' (size : Int) w h (by omega) (by omega))
  clear h
  go_enter Tryd.func81, Tryd.ntmps81
  go_wp2_with (go_at_call 66; refine HT.out.mono ?_; rintro e w' ⟨rfl, m, rfl⟩)
  go_ret2
  exact ⟨rfl, m, rfl⟩

set_option maxHeartbeats 1000000 in
theorem wide_full (p : Nat) (A : Option Addr) (N cap at' size : Nat) (zs : List Int) (w : World) (h : Rd w p A N cap at') (hb : BysB w p A N zs) (hs : size ≤ 8) (hn : at' + size ≤ N) :
    Calls Tryd.prog 81 #[.pointer (some ⟨p, 0, none⟩), .int .i64 size] w fun e w' => e = .returned (.tuple #[.int .u64 (widE ((zs.drop at').take size) size).1, .int .i64 (widE ((zs.drop at').take size) size).2]) ∧ RF p w w' ∧ Rd w' p A N cap (at' + size) := by
  have HT := Lib.hid (tak_yes p A N cap at' size w h hn)
  have hp := cell_in h.pos
  have HB := Lib.hid hb
  have hcut := fun (W : World) (hW : RF p w W) => (hb.below (hW.below (Nat.le_of_lt hp))).1.cut at' size hn h.hcap
  have HC := Lib.hid hcut
  clear h hb hcut
  generalize hys : (zs.drop at').take size = ys at *
  have hlen : ys.length = size := by have := HB.out.1.len; rw [← hys]; simp; omega
  have hrng : ∀ z ∈ ys, 0 ≤ z ∧ z ≤ 255 := by rw [← hys]; exact fun z hz => HB.out.1.rng z (List.mem_of_mem_drop (List.mem_of_mem_take hz))
  have HBD := Lib.hid (beTo_bd ys hrng)
  clear hys hrng
  go_enter Tryd.func81, Tryd.ntmps81
  go_wp2_with (go_at_call 66; refine HT.out.mono ?_; rintro e w' ⟨rfl, hrf, hrd⟩)
  have HY := Lib.hid (HC.out w' hrf)
  have HR := Lib.hid hrf
  have HD := Lib.hid hrd
  clear hrf hrd
  generalize cutA A cap at' = A2 at *
  have HL := Lib.hid hlen
  clear hlen
  go_loop [4, 21] (fun n i => ∃ k : Nat, k ≤ size ∧ i = .int .i64 k ∧ n = .int .u64 (beTo ys k)) (fun _ i => size - (intOf i).toNat)
  case atStart => exact ⟨0, by omega, rfl, rfl⟩
  case round =>
    obtain ⟨k, hk, rfl, rfl⟩ := hrel
    by_cases hlt : k < size
    · obtain ⟨a, rfl, hc⟩ := HY.out.at_ k hlt
      obtain ⟨x0, x1⟩ := HY.out.byte k hlt
      have hsu := beTo_succ (ys := ys) (k := k) (by have := HL.out; omega)
      have hbd := HBD.out k (by have := HL.out; omega)
      have hp56 : (256 : Int) ^ k ≤ 72057594037927936 := by
        have h7 : k = 0 ∨ k = 1 ∨ k = 2 ∨ k = 3 ∨ k = 4 ∨ k = 5 ∨ k = 6 ∨ k = 7 := by omega
        rcases h7 with rfl | rfl | rfl | rfl | rfl | rfl | rfl | rfl <;> decide
      have hb1 : 0 ≤ beTo ys k ∧ beTo ys k < 72057594037927936 := by omega
      generalize ys.getD k 0 = x at *
      generalize beTo ys k = n at *
      have HS := Lib.hid hsu
      have HB1 := Lib.hid hb1
      clear hsu hbd hp56 hb1
      go_wp2
      go_round
      case rel => exact ⟨k + 1, by omega, by go_num, by rw [or_step n x HB1.out.1 HB1.out.2 x0 x1, HS.out]⟩
      case measure => (simp [intOf] <;> omega)
    · have hkn : k = size := by omega
      subst hkn
      have HA := Lib.hid (fun (W : World) => argSz_any (beTo ys k) W)
      by_cases hgood : argSz (beTo ys k) = (k : Int)
      · have HW := Lib.hid (wid_ok hgood)
        have hne : (argSz (beTo ys k) != (k : Int)) = false := by simp [hgood]
        generalize beTo ys k = n at *
        generalize hz : argSz n = z at *
        have HZ := Lib.hid hz
        have HG := Lib.hid hgood
        clear hz hgood
        go_wp2_with (go_at_call 75; refine (HA.out _).mono ?_; rintro e w9 ⟨rfl, rfl⟩)
        go_ret2
        exact ⟨by rw [HW.out]; rfl, HR.out, HD.out⟩
      · have HW := Lib.hid (wid_bad hgood)
        have hne : (argSz (beTo ys k) != (k : Int)) = true := by simp [hgood]
        generalize beTo ys k = n at *
        generalize hz : argSz n = z at *
        have HZ := Lib.hid hz
        clear hz hgood
        go_wp2_with (go_at_call 75; refine (HA.out _).mono ?_; rintro e w9 ⟨rfl, rfl⟩)
        go_ret2
        exact ⟨by rw [HW.out]; rfl, HR.out, HD.out⟩
end Go.Proofs.YtepinmeidjlmmaaDoor

/- A reader over any bytes: the head of an item. -/
namespace Go.Proofs.YtepinmeidjlmmaaDoor
open Go.RowKit
set_option maxRecDepth 100000

theorem and31 (x : Int) (h0 : 0 ≤ x) (h1 : x ≤ 255) : bits .and .u8 x 31 = x % 32 := by
  have key : ∀ a : Fin 256, bits BinOp.and IntKind.u8 ((a.val : Nat) : Int) 31 = ((a.val : Nat) : Int) % 32 := by decide +kernel
  have := key ⟨x.toNat, by omega⟩
  simpa [Int.toNat_of_nonneg h0] using this
theorem getD_drop (zs : List Int) (a i : Nat) : (zs.drop a).getD i 0 = zs.getD (a + i) 0 := by simp [List.getD, List.getElem?_drop]

abbrev HeadV (k n e : Int) : Ending := .returned (.tuple #[.int .i64 k, .int .u64 n, .int .i64 e])

set_option maxHeartbeats 1000000 in
theorem hed_short (p : Nat) (A : Option Addr) (N cap : Nat) (w : World) (h : Rd w p A N cap N) :
    Calls Tryd.prog 64 #[.pointer (some ⟨p, 0, none⟩)] w fun e w' => e = HeadV 0 0 1 ∧ RF p w w' := by
  have HT := Lib.hid (tak_no p A N cap N 1 w h (by omega) (by omega))
  clear h
  go_enter Tryd.func64, Tryd.ntmps64
  go_wp2_with (go_at_call 66; refine HT.out.mono ?_; rintro e w' ⟨rfl, m, rfl⟩)
  go_ret3
  refine ⟨rfl, ?_⟩
  exact ⟨rfl, rfl, rfl, Nat.le_refl _, fun _ _ _ => rfl, fun _ _ => rfl, fun _ => rfl⟩

/-- what a byte at the reader's place is good for -/
structure One (w : World) (p : Nat) (A : Option Addr) (N cap at' : Nat) (x : Int) (zs : List Int) : Prop where
  rd : Rd w p A N cap at'
  by_ : BysB w p A N zs
  lt : at' < N
  x0 : 0 ≤ x
  x1 : x ≤ 255
  at_ : zs.getD at' 0 = x
theorem One.take {w : World} {p : Nat} {A : Option Addr} {N cap at' : Nat} {x : Int} {zs : List Int} (h : One w p A N cap at' x zs) :
    Calls Tryd.prog 66 #[.pointer (some ⟨p, 0, none⟩), .int .u64 1] w fun e w' => (∃ a, e = .returned (.tuple #[.slice (some a) 1 (cap - at'), .bool true]) ∧ w'.cell? a = some (.int .u8 x)) ∧ RF p w w' ∧ Rd w' p A N cap (at' + 1) := by
  have hp := cell_in h.rd.pos
  refine (tak_yes p A N cap at' 1 w h.rd h.lt).mono ?_
  rintro e w' ⟨rfl, hr, hd⟩
  refine ⟨?_, hr, hd⟩
  have hc := (h.by_.below (hr.below (Nat.le_of_lt hp))).1.cut at' 1 h.lt h.rd.hcap
  obtain ⟨a, e, hcell⟩ := hc.at_ 0 (by omega)
  refine ⟨a, by rw [e], ?_⟩
  have e1 : a.add 0 = a := by unfold Addr.add; rw [if_pos rfl]
  rw [e1] at hcell
  rw [hcell]
  have : ((zs.drop at').take 1).getD 0 0 = x := by
    rw [← h.at_]
    simp [List.getD, List.getElem?_drop]
  rw [this]

set_option maxHeartbeats 1000000 in
theorem hed_one (p : Nat) (A : Option Addr) (N cap at' : Nat) (x : Int) (zs : List Int) (w : World) (h : One w p A N cap at' x zs) (hx : x = 244 ∨ x = 245 ∨ x = 246) :
    Calls Tryd.prog 64 #[.pointer (some ⟨p, 0, none⟩)] w fun e w' => e = HeadV (if x = 246 then 8 else 7) (if x = 245 then 1 else 0) 0 ∧ RF p w w' ∧ Rd w' p A N cap (at' + 1) := by
  have HT := Lib.hid h.take
  clear h
  rcases hx with rfl | rfl | rfl
  all_goals
    go_enter Tryd.func64, Tryd.ntmps64
    go_wp2_with (go_at_call 66; refine HT.out.mono ?_; rintro e w' ⟨⟨a, rfl, hc⟩, hr, hd⟩)
    go_ret3
    exact ⟨rfl, hr, hd⟩

set_option maxHeartbeats 1000000 in
theorem hed_bad (p : Nat) (A : Option Addr) (N cap at' : Nat) (x m l : Int) (zs : List Int) (w : World) (h : One w p A N cap at' x zs) (hx : x ≠ 244 ∧ x ≠ 245 ∧ x ≠ 246) (hm : x / 32 = m) (hl : x % 32 = l) (hbad : 6 < 1 + m ∨ 27 < l) :
    Calls Tryd.prog 64 #[.pointer (some ⟨p, 0, none⟩)] w fun e w' => e = HeadV 0 0 2 ∧ RF p w w' := by
  have HT := Lib.hid h.take
  have q0 := h.x0
  have q1 := h.x1
  have ha := and31 x h.x0 h.x1
  rw [hl] at ha
  have m0 : 0 ≤ m ∧ m ≤ 7 := by omega
  have l0 : 0 ≤ l ∧ l ≤ 31 := by omega
  have y1 : (x == 244) = false := by simp; omega
  have y2 : (x == 245) = false := by simp; omega
  have y3 : (x == 246) = false := by simp; omega
  clear h hx hl
  by_cases h6 : 6 < 1 + m
  · clear hbad
    go_enter Tryd.func64, Tryd.ntmps64
    go_wp2_with (go_at_call 66; refine HT.out.mono ?_; rintro e w' ⟨⟨a, rfl, hc⟩, hr, hd⟩)
    go_ret3
    exact ⟨rfl, hr⟩
  · have h27 : 27 < l := by omega
    clear hbad
    go_enter Tryd.func64, Tryd.ntmps64
    go_wp2_with (go_at_call 66; refine HT.out.mono ?_; rintro e w' ⟨⟨a, rfl, hc⟩, hr, hd⟩)
    go_ret3
    exact ⟨rfl, hr⟩

set_option maxHeartbeats 1000000 in
theorem hed_low (p : Nat) (A : Option Addr) (N cap at' : Nat) (x m l : Int) (zs : List Int) (w : World) (h : One w p A N cap at' x zs) (hm : x / 32 = m) (hl : x % 32 = l) (h6 : m ≤ 5) (h24 : l < 24) :
    Calls Tryd.prog 64 #[.pointer (some ⟨p, 0, none⟩)] w fun e w' => e = HeadV (1 + m) l 0 ∧ RF p w w' ∧ Rd w' p A N cap (at' + 1) := by
  have HT := Lib.hid h.take
  have q0 := h.x0
  have q1 := h.x1
  have ha := and31 x h.x0 h.x1
  rw [hl] at ha
  have m0 : 0 ≤ m ∧ m ≤ 7 := by omega
  have l0 : 0 ≤ l ∧ l ≤ 31 := by omega
  have y1 : (x == 244) = false := by simp; omega
  have y2 : (x == 245) = false := by simp; omega
  have y3 : (x == 246) = false := by simp; omega
  have h66 : ¬ 6 < 1 + m := by omega
  have h27 : ¬ 27 < l := by omega
  clear h hl
  go_enter Tryd.func64, Tryd.ntmps64
  go_wp2_with (go_at_call 66; refine HT.out.mono ?_; rintro e w' ⟨⟨a, rfl, hc⟩, hr, hd⟩)
  go_ret3
  exact ⟨rfl, hr, hd⟩

set_option maxHeartbeats 1000000 in
theorem hed_wshort (p : Nat) (A : Option Addr) (N cap at' : Nat) (x m : Int) (j : Nat) (zs : List Int) (w : World) (h : One w p A N cap at' x zs) (hm : x / 32 = m) (hl : x % 32 = 24 + j) (h6 : m ≤ 5) (hj : j < 4) (hN : N < at' + 1 + 2 ^ j) :
    Calls Tryd.prog 64 #[.pointer (some ⟨p, 0, none⟩)] w fun e w' => e = HeadV 0 0 1 ∧ RF p w w' := by
  have HT := Lib.hid h.take
  have q0 := h.x0
  have q1 := h.x1
  have ha := and31 x h.x0 h.x1
  rw [hl] at ha
  have m0 : 0 ≤ m ∧ m ≤ 7 := by omega
  have y1 : (x == 244) = false := by simp; omega
  have y2 : (x == 245) = false := by simp; omega
  have y3 : (x == 246) = false := by simp; omega
  have h66 : ¬ 6 < 1 + m := by omega
  clear h hl
  have h4 : j = 0 ∨ j = 1 ∨ j = 2 ∨ j = 3 := by omega
  rcases h4 with rfl | rfl | rfl | rfl
  all_goals
    have HW := Lib.hid (fun (W : World) (hW : Rd W p A N cap (at' + 1)) => wide_short p A N cap (at' + 1) _ W hW (by decide) hN)
    go_enter Tryd.func64, Tryd.ntmps64
    go_wp2_with (first | (go_at_call 66; refine HT.out.mono ?_; rintro e w' ⟨⟨a, rfl, hc⟩, hr, hd⟩) | (go_at_call 81; refine (HW.out _ hd).mono ?_; rintro e w9 ⟨rfl, k, rfl⟩))
    go_ret3
    exact ⟨rfl, hr.trans ⟨rfl, rfl, rfl, Nat.le_refl _, fun _ _ _ => rfl, fun _ _ => rfl, fun _ => rfl⟩⟩

/-- the argument of size bytes that follows the place at' -/
def widN (zs : List Int) (at' size : Nat) : Int := beTo ((zs.drop (at' + 1)).take size) size
set_option maxHeartbeats 1000000 in
theorem hed_wbad (p : Nat) (A : Option Addr) (N cap at' : Nat) (x m : Int) (j : Nat) (zs : List Int) (w : World) (h : One w p A N cap at' x zs) (hm : x / 32 = m) (hl : x % 32 = 24 + j) (h6 : m ≤ 5) (hj : j < 4) (hN : at' + 1 + 2 ^ j ≤ N)
    (hbad : ¬ argSz (widN zs at' (2 ^ j)) = ((2 ^ j : Nat) : Int)) :
    Calls Tryd.prog 64 #[.pointer (some ⟨p, 0, none⟩)] w fun e w' => e = HeadV 0 0 2 ∧ RF p w w' := by
  have HT := Lib.hid h.take
  have q0 := h.x0
  have q1 := h.x1
  have hp := cell_in h.rd.pos
  have HBy := Lib.hid (fun (W : World) (hW : RF p w W) => h.by_.below (hW.below (Nat.le_of_lt hp)))
  have ha := and31 x h.x0 h.x1
  rw [hl] at ha
  have m0 : 0 ≤ m ∧ m ≤ 7 := by omega
  have y1 : (x == 244) = false := by simp; omega
  have y2 : (x == 245) = false := by simp; omega
  have y3 : (x == 246) = false := by simp; omega
  have h66 : ¬ 6 < 1 + m := by omega
  clear h hl hp
  have h4 : j = 0 ∨ j = 1 ∨ j = 2 ∨ j = 3 := by omega
  rcases h4 with rfl | rfl | rfl | rfl
  all_goals
    have hwe := wid_bad hbad
    have HW := Lib.hid (fun (W : World) (hW : Rd W p A N cap (at' + 1)) (hB : BysB W p A N zs) => wide_full p A N cap (at' + 1) _ zs W hW hB (by decide) hN)
    rw [hwe] at HW
    clear hwe hbad
    go_enter Tryd.func64, Tryd.ntmps64
    go_wp2_with (first | (go_at_call 66; refine HT.out.mono ?_; rintro e w' ⟨⟨a, rfl, hc⟩, hr, hd⟩; have HR := Lib.hid hr; have HD := Lib.hid hd; clear hr hd) | (go_at_call 81; refine (HW.out _ HD.out (HBy.out _ HR.out)).mono ?_; rintro e w9 ⟨rfl, hr9, hd9⟩))
    go_ret3
    exact ⟨rfl, HR.out.trans hr9⟩
set_option maxHeartbeats 1000000 in
theorem hed_wide (p : Nat) (A : Option Addr) (N cap at' : Nat) (x m : Int) (j : Nat) (zs : List Int) (w : World) (h : One w p A N cap at' x zs) (hm : x / 32 = m) (hl : x % 32 = 24 + j) (h6 : m ≤ 5) (hj : j < 4) (hN : at' + 1 + 2 ^ j ≤ N)
    (hok : argSz (widN zs at' (2 ^ j)) = ((2 ^ j : Nat) : Int)) :
    Calls Tryd.prog 64 #[.pointer (some ⟨p, 0, none⟩)] w fun e w' => e = HeadV (1 + m) (widN zs at' (2 ^ j)) 0 ∧ RF p w w' ∧ Rd w' p A N cap (at' + 1 + 2 ^ j) := by
  have HT := Lib.hid h.take
  have q0 := h.x0
  have q1 := h.x1
  have hp := cell_in h.rd.pos
  have HBy := Lib.hid (fun (W : World) (hW : RF p w W) => h.by_.below (hW.below (Nat.le_of_lt hp)))
  have ha := and31 x h.x0 h.x1
  rw [hl] at ha
  have m0 : 0 ≤ m ∧ m ≤ 7 := by omega
  have y1 : (x == 244) = false := by simp; omega
  have y2 : (x == 245) = false := by simp; omega
  have y3 : (x == 246) = false := by simp; omega
  have h66 : ¬ 6 < 1 + m := by omega
  clear h hl hp
  have h4 : j = 0 ∨ j = 1 ∨ j = 2 ∨ j = 3 := by omega
  rcases h4 with rfl | rfl | rfl | rfl
  all_goals
    have hwe := wid_ok hok
    have HW := Lib.hid (fun (W : World) (hW : Rd W p A N cap (at' + 1)) (hB : BysB W p A N zs) => wide_full p A N cap (at' + 1) _ zs W hW hB (by decide) hN)
    rw [hwe] at HW
    clear hwe hok
    go_enter Tryd.func64, Tryd.ntmps64
    go_wp2_with (first | (go_at_call 66; refine HT.out.mono ?_; rintro e w' ⟨⟨a, rfl, hc⟩, hr, hd⟩; have HR := Lib.hid hr; have HD := Lib.hid hd; clear hr hd) | (go_at_call 81; refine (HW.out _ HD.out (HBy.out _ HR.out)).mono ?_; rintro e w9 ⟨rfl, hr9, hd9⟩))
    go_ret3
    exact ⟨rfl, HR.out.trans hr9, hd9⟩
end Go.Proofs.YtepinmeidjlmmaaDoor

/- A reader over any bytes: the head as one contract. -/
namespace Go.Proofs.YtepinmeidjlmmaaDoor
open Go.RowKit
set_option maxRecDepth 100000

theorem nestAt.rf {w w' : World} {base p c : Nat} {s : List Lv} {v : Value} (h : nestAt w base p c s v) (hr : RF p w w') : nestAt w' base p c s v := by
  refine ⟨(hr.cell 0 (by omega)).trans h.cnt, (hr.cell 1 (by omega)).trans h.lv, (hr.frz 0).trans h.fr0, (hr.frz 1).trans h.fr1, ?_, h.lt, Nat.le_trans h.hb hr.size, h.len, h.c512, h.ok⟩
  refine ⟨h.own.1, ?_⟩
  rcases h.own.2 with h0 | ⟨g, cap, cur, hv, hg, hh, hc⟩
  · exact .inl h0
  · refine .inr ⟨g, cap, cur, hv, hg, ?_, hc⟩
    rw [hr.block g (lt_of_heap hh) (by have := h.lt; omega), hh]

/-- a reader and its nesting -/
structure RdS (w : World) (p base c : Nat) (s : List Lv) (A : Option Addr) (N cap at' : Nat) (zs : List Int) : Prop where
  nest : ∃ v, nestAt w base p c s v
  rd : Rd w p A N cap at'
  by_ : BysB w p A N zs
  tabs : Tabs w
  p4 : 4 ≤ p
theorem RdS.plt {w : World} {p base c : Nat} {s : List Lv} {A : Option Addr} {N cap at' : Nat} {zs : List Int} (h : RdS w p base c s A N cap at' zs) : p < w.heap.size := cell_in h.rd.pos
theorem RdS.rf {w w' : World} {p base c : Nat} {s : List Lv} {A : Option Addr} {N cap at' at2 : Nat} {zs : List Int} (h : RdS w p base c s A N cap at' zs) (hr : RF p w w') (hd : Rd w' p A N cap at2) : RdS w' p base c s A N cap at2 zs := by
  obtain ⟨v, hv⟩ := h.nest
  have hb := hr.below (Nat.le_of_lt h.plt)
  exact ⟨⟨v, hv.rf hr⟩, hd, h.by_.below hb, h.tabs.below hb h.p4, h.p4⟩
theorem RdS.keep {w w' : World} {p base c : Nat} {s : List Lv} {A : Option Addr} {N cap at' : Nat} {zs : List Int} (h : RdS w p base c s A N cap at' zs) (hb : Below w.heap.size w w') : RdS w' p base c s A N cap at' zs := by
  obtain ⟨v, hv⟩ := h.nest
  exact ⟨⟨v, hv.later hb⟩, h.rd.keep hb, h.by_.below (hb.mono (Nat.le_of_lt h.plt)), h.tabs.later hb, h.p4⟩
theorem RF.of_below {p : Nat} {w w' : World} (hb : Below w.heap.size w w') (hp : p < w.heap.size) : RF p w w' :=
  ⟨hb.os, hb.tape, hb.output, hb.size, fun k hk _ => hb.block k hk, fun j _ => hb.cell (p := ⟨p, j, none⟩) hp, fun j => hb.frozen (p := ⟨p, j, none⟩) hp⟩

/-- kind, argument, error and the place behind the head at a -/
def headE (zs : List Int) (N a : Nat) : Int × Int × Int × Nat :=
  if N ≤ a then (0, 0, 1, a)
  else if zs.getD a 0 = 244 ∨ zs.getD a 0 = 245 ∨ zs.getD a 0 = 246 then (if zs.getD a 0 = 246 then 8 else 7, if zs.getD a 0 = 245 then 1 else 0, 0, a + 1)
  else if 6 < 1 + zs.getD a 0 / 32 ∨ 27 < zs.getD a 0 % 32 then (0, 0, 2, a)
  else if zs.getD a 0 % 32 < 24 then (1 + zs.getD a 0 / 32, zs.getD a 0 % 32, 0, a + 1)
  else if N < a + 1 + 2 ^ (zs.getD a 0 % 32 - 24).toNat then (0, 0, 1, a)
  else if argSz (widN zs a (2 ^ (zs.getD a 0 % 32 - 24).toNat)) = ((2 ^ (zs.getD a 0 % 32 - 24).toNat : Nat) : Int) then (1 + zs.getD a 0 / 32, widN zs a (2 ^ (zs.getD a 0 % 32 - 24).toNat), 0, a + 1 + 2 ^ (zs.getD a 0 % 32 - 24).toNat)
  else (0, 0, 2, a)

def HeadP (p : Nat) (A : Option Addr) (N cap : Nat) (h : Int × Int × Int × Nat) (w : World) (e : Ending) (w' : World) : Prop :=
  e = HeadV h.1 h.2.1 h.2.2.1 ∧ RF p w w' ∧ (h.2.2.1 = 0 → Rd w' p A N cap h.2.2.2)

theorem hed_any (p : Nat) (A : Option Addr) (N cap a : Nat) (zs : List Int) (w : World) (h : Rd w p A N cap a) (hb : BysB w p A N zs) :
    Calls Tryd.prog 64 #[.pointer (some ⟨p, 0, none⟩)] w (HeadP p A N cap (headE zs N a) w) := by
  unfold headE
  by_cases hN : N ≤ a
  · rw [if_pos hN]
    have hE : a = N := by have := h.hat; omega
    subst hE
    exact (hed_short p A a cap w h).mono fun e w' hh => ⟨hh.1, hh.2, fun h0 => by cases h0⟩
  rw [if_neg hN]
  have hby := hb.1.byte a (by omega)
  have ho : One w p A N cap a (zs.getD a 0) zs := ⟨h, hb, by omega, hby.1, hby.2, rfl⟩
  generalize zs.getD a 0 = x at *
  by_cases hx : x = 244 ∨ x = 245 ∨ x = 246
  · rw [if_pos hx]
    exact (hed_one p A N cap a x zs w ho hx).mono fun e w' hh => ⟨hh.1, hh.2.1, fun _ => hh.2.2⟩
  rw [if_neg hx]
  have hx3 : x ≠ 244 ∧ x ≠ 245 ∧ x ≠ 246 := by omega
  by_cases hbad : 6 < 1 + x / 32 ∨ 27 < x % 32
  · rw [if_pos hbad]
    exact (hed_bad p A N cap a x _ _ zs w ho hx3 rfl rfl hbad).mono fun e w' hh => ⟨hh.1, hh.2, fun h0 => by cases h0⟩
  rw [if_neg hbad]
  by_cases hlow : x % 32 < 24
  · rw [if_pos hlow]
    exact (hed_low p A N cap a x _ _ zs w ho rfl rfl (by omega) hlow).mono fun e w' hh => ⟨hh.1, hh.2.1, fun _ => hh.2.2⟩
  rw [if_neg hlow]
  obtain ⟨j, hj⟩ : ∃ j : Nat, x % 32 - 24 = j := ⟨(x % 32 - 24).toNat, by omega⟩
  rw [hj, Int.toNat_natCast]
  by_cases hsh : N < a + 1 + 2 ^ j
  · rw [if_pos hsh]
    exact (hed_wshort p A N cap a x _ j zs w ho rfl (by omega) (by omega) (by omega) hsh).mono fun e w' hh => ⟨hh.1, hh.2, fun h0 => by cases h0⟩
  rw [if_neg hsh]
  by_cases hok : argSz (widN zs a (2 ^ j)) = ((2 ^ j : Nat) : Int)
  · rw [if_pos hok]
    exact (hed_wide p A N cap a x _ j zs w ho rfl (by omega) (by omega) (by omega) (by omega) hok).mono fun e w' hh => ⟨hh.1, hh.2.1, fun _ => hh.2.2⟩
  · rw [if_neg hok]
    exact (hed_wbad p A N cap a x _ j zs w ho rfl (by omega) (by omega) (by omega) (by omega) hok).mono fun e w' hh => ⟨hh.1, hh.2, fun h0 => by cases h0⟩

/-- what a head without error is like -/
theorem head_ok {zs : List Int} {N a : Nat} (hr : ∀ z ∈ zs, 0 ≤ z ∧ z ≤ 255) (hl : zs.length = N) {k n : Int} {a2 : Nat} (h : headE zs N a = (k, n, 0, a2)) :
    1 ≤ k ∧ k ≤ 8 ∧ 0 ≤ n ∧ n ≤ 18446744073709551615 ∧ (k = 7 → n ≤ 1) ∧ (k = 8 → n = 0) ∧ a < a2 ∧ a2 ≤ N := by
  unfold headE at h
  by_cases hN : N ≤ a
  · rw [if_pos hN] at h; simp at h
  rw [if_neg hN] at h
  have hby : 0 ≤ zs.getD a 0 ∧ zs.getD a 0 ≤ 255 := by
    simp only [List.getD, List.getElem?_eq_getElem (show a < zs.length by omega), Option.getD_some]
    exact hr _ (List.getElem_mem _)
  generalize zs.getD a 0 = x at *
  by_cases hx : x = 244 ∨ x = 245 ∨ x = 246
  · rw [if_pos hx] at h
    simp only [Prod.mk.injEq] at h
    obtain ⟨h1, h2, _, h4⟩ := h
    rcases hx with rfl | rfl | rfl <;> simp at h1 h2 <;> omega
  rw [if_neg hx] at h
  by_cases hbad : 6 < 1 + x / 32 ∨ 27 < x % 32
  · rw [if_pos hbad] at h; simp at h
  rw [if_neg hbad] at h
  by_cases hlow : x % 32 < 24
  · rw [if_pos hlow] at h
    simp only [Prod.mk.injEq] at h
    omega
  rw [if_neg hlow] at h
  obtain ⟨j, hj⟩ : ∃ j : Nat, x % 32 - 24 = j := ⟨(x % 32 - 24).toNat, by omega⟩
  rw [hj, Int.toNat_natCast] at h
  by_cases hsh : N < a + 1 + 2 ^ j
  · rw [if_pos hsh] at h; simp at h
  rw [if_neg hsh] at h
  by_cases hok : argSz (widN zs a (2 ^ j)) = ((2 ^ j : Nat) : Int)
  · rw [if_pos hok] at h
    simp only [Prod.mk.injEq] at h
    have hj4 : j = 0 ∨ j = 1 ∨ j = 2 ∨ j = 3 := by omega
    have hbd := beTo_bd ((zs.drop (a + 1)).take (2 ^ j)) (fun z hz => hr z (List.mem_of_mem_drop (List.mem_of_mem_take hz))) (2 ^ j) (by simp; omega)
    have hw : widN zs a (2 ^ j) = beTo ((zs.drop (a + 1)).take (2 ^ j)) (2 ^ j) := rfl
    rw [← hw] at hbd
    obtain ⟨h1, h2, _, h4⟩ := h
    rw [h2] at hbd
    rcases hj4 with rfl | rfl | rfl | rfl <;> simp at hbd h4 hsh <;> omega
  · rw [if_neg hok] at h; simp at h
end Go.Proofs.YtepinmeidjlmmaaDoor

/- A region that draws its order, walked in one order: what holds of the world may be strengthened on the way. -/
namespace Go.Proofs.YtepinmeidjlmmaaDoor
open Go.RowKit

theorem wpAnyH_mono {P : Program} {md : Region.Mode} {ops : Array Oper} {Q : Exit → Act → World → Prop} {S S' : World → Prop} (h : ∀ w, S' w → S w) :
    ∀ (fuel : Nat) (listed : Array Bool) (a : Act) (w : World), wpAnyH P md ops Q S' fuel listed a w → wpAnyH P md ops Q S fuel listed a w
  | 0, _, _, _, hh => hh
  | fuel + 1, _, _, _, hh => ⟨hh.1, fun i hi => wpOp_mono (fun a' w' h' => ⟨h w' h'.1, wpAnyH_mono h fuel _ a' w' h'.2⟩) (hh.2 i hi)⟩
/-- from here on: what has been there stays as it is -/
theorem held_from {P : Program} {md : Region.Mode} {ops : Array Oper} {Q : Exit → Act → World → Prop} {S : World → Prop} {fuel : Nat} {listed : Array Bool} {a : Act} {w : World}
    (hS : ∀ W, Below w.heap.size w W → S W) (h : wpAnyH P md ops Q (fun W => Below w.heap.size w W) fuel listed a w) : wpAnyH P md ops Q S fuel listed a w :=
  wpAnyH_mono hS fuel listed a w h
section
variable {P : Program} {md : Region.Mode} {ops : Array Oper} {Q : Exit → Act → World → Prop} {fuel : Nat} {listed : Array Bool} {a : Act} {w : World}
/-- one that may come up alone comes up: a call -/
theorem held_call {i : Nat} {o : Oper} (hr : Region.ready md ops listed = [i]) (ho : ops[i]? = some o)
    (h : ∀ K' : Act → World → Prop, Shut (∀ a w', Below w.heap.size w w' → wpAnyH P md ops Q (fun W => Below w'.heap.size w' W) fuel (listed.setIfInBounds i true) a w' → K' a w') → if Region.wanted o (yielded ops a.tmps) = true then Oper.wp P o a w K' Q else K' (a.put o.dst undef) w) :
    wpAnyH P md ops Q (fun W => Below w.heap.size w W) (fuel + 1) listed a w := by
  refine wpAnyH_all hr (by simp) fun j hj => ?_
  obtain rfl : j = i := by simpa using hj
  refine wpOp_step ho fun K' hK => h K' fun a w' hb hh => hK a w' ⟨hb, wpAnyH_mono (fun W hW => hb.trans (hW.mono hb.size)) _ _ _ _ hh⟩
/-- one that yields its value whatever comes is taken first -/
theorem held_take {i d : Nat} {oi : Oper} {v : Value} (hi : ops[i]? = some oi) (hd : oi.dst = some d) (hs : Region.noSelect ops = true) (hf : Region.free md ops listed i = true) (hr : (Region.ready md ops listed).contains i = true)
    (hQ : ∀ c a w, Q (.panic c) (a.put (some d) v) w → Q (.panic c) a w) (hw : Region.wanted oi (yielded ops a.tmps) = true) (hy : ∀ W, Below w.heap.size w W → (execOp a.eval oi).run P W = .ok (.value v) W)
    (h : wpAnyH P md ops Q (fun W => Below w.heap.size w W) fuel (listed.setIfInBounds i true) (a.put (some d) v) w) : wpAnyH P md ops Q (fun W => Below w.heap.size w W) (fuel + 1) listed a w :=
  wpAnyH_take hi hs hf hr (by rw [hd]; exact hQ) (Or.inl ⟨hw, hy⟩) (Below.refl _ _) (by rw [hd]; exact h)
/-- the beginning -/
theorem held_begin {id : Nat} (hm : P.follows .mixedOrders = true) (h : wpAnyH P .any ops Q (fun W => Below w.drew.heap.size w.drew W) ops.size (Array.replicate ops.size false) a w.drew) : (Code.region id ops true).wp P Q a w :=
  wp_region_held hm h
end
end Go.Proofs.YtepinmeidjlmmaaDoor

/- A reader over any bytes: an item that has an error ahead of its content. -/
namespace Go.Proofs.YtepinmeidjlmmaaDoor
open Go.RowKit
set_option maxRecDepth 100000

theorem RF.setNew {p : Nat} {w w1 : World} (h : RF p w w1) {B : Nat} (hB : w.heap.size ≤ B) (hp : p < w.heap.size) (j : Nat) (u : Value) : RF p w (w1.setCell ⟨B, j, none⟩ u) :=
  ⟨h.os, h.tape, h.output, by simpa using h.size, fun k hk hkp => (heap_setCell_other w1 _ k u (by simp; omega)).trans (h.block k hk hkp), fun i hi => (World.cell?_setCell_other _ _ _ _ (by simp <;> omega)).trans (h.cell i hi), fun i => (World.frozen?_setCell _ _ _ _).trans (h.frz i)⟩
theorem RF.drewN {p : Nat} {w w1 : World} (h : RF p w w1) (n : Nat) : RF p w (w1.drewN n) := ⟨h.os, h.tape, h.output, h.size, h.block, h.cell, h.frz⟩
theorem RF.drew {p : Nat} {w w1 : World} (h : RF p w w1) : RF p w w1.drew := ⟨h.os, h.tape, h.output, h.size, h.block, h.cell, h.frz⟩
theorem RF.allocs {p : Nat} {w w1 : World} (h : RF p w w1) (hp : p < w.heap.size) (o : Obj) : RF p w (w1.alloc o) :=
  h.trans (RF.of_below ((Below.refl _ w1).alloc (Nat.le_refl _) o) (Nat.lt_of_lt_of_le hp h.size))
/-- an item's box -/
def Box (W : World) (B : Nat) (k n : Int) (d : ByteArray) : Prop := W.heap[B]? = some (.cells (itemCs k n d) 58 (0, 0))
theorem Box.cells {W : World} {B : Nat} {k n : Int} {d : ByteArray} (h : Box W B k n d) : W.cell? ⟨B, 0, none⟩ = some (.int .i64 k) ∧ W.cell? ⟨B, 1, none⟩ = some (.int .u64 n) ∧ W.cell? ⟨B, 2, none⟩ = some (.string d) ∧ W.frozen? ⟨B, 0, none⟩ = false ∧ W.frozen? ⟨B, 1, none⟩ = false ∧ W.frozen? ⟨B, 2, none⟩ = false := by
  unfold Box at h
  exact ⟨cell_of_block h rfl, cell_of_block h rfl, cell_of_block h rfl, by simp [World.frozen?, h], by simp [World.frozen?, h], by simp [World.frozen?, h]⟩
theorem Box.new (w : World) (k n : Int) (d : ByteArray) : Box (w.alloc (.cells #[.int .i64 k, .int .u64 n, .string d] 58)) w.heap.size k n d := heap_new w _
theorem Box.lt {W : World} {B : Nat} {k n : Int} {d : ByteArray} (h : Box W B k n d) : B < W.heap.size := lt_of_heap h
theorem Box.rf {W W' : World} {p B : Nat} {k n : Int} {d : ByteArray} (h : Box W B k n d) (hr : RF p W W') (hne : B ≠ p) : Box W' B k n d := (hr.block B h.lt hne).trans h
theorem Box.keep {W W' : World} {B : Nat} {k n : Int} {d : ByteArray} (h : Box W B k n d) (hb : Below W.heap.size W W') : Box W' B k n d := (hb.block B h.lt).trans h
theorem Box.drewN {W : World} {B : Nat} {k n : Int} {d : ByteArray} (h : Box W B k n d) (m : Nat) : Box (W.drewN m) B k n d := h

theorem place_b {w : World} {p base c : Nat} {s : List Lv} {A : Option Addr} {N cap a : Nat} {zs : List Int} (h : RdS w p base c s A N cap a zs) (k : Int) {r : Int} (hr : placeE c s k = r) :
    Calls Tryd.prog 55 #[.pointer (some ⟨p, 0, none⟩), .int .i64 k] w fun e w' => e = .returned (.int .i64 r) ∧ Below w.heap.size w w' := by
  obtain ⟨v, hv⟩ := h.nest
  rw [← hr]
  refine (place_any k w hv).mono ?_
  rintro e w' ⟨he, m, hm⟩
  exact ⟨he, by rw [hm]; exact ⟨rfl, rfl, rfl, Nat.le_refl _, fun _ _ => rfl⟩⟩
def noIt : It := ⟨0, 0, ⟨#[]⟩⟩
def ItemP (p base c : Nat) (s : List Lv) (A : Option Addr) (N cap : Nat) (zs : List Int) (r : Int × It × Nat) (w : World) (e : Ending) (w' : World) : Prop :=
  e = .returned (.tuple #[itemV r.2.1.k r.2.1.n r.2.1.d, .int .i64 r.1]) ∧ RF p w w' ∧ (r.1 = 0 → RdS w' p base c s A N cap r.2.2 zs)

set_option maxHeartbeats 1000000 in
theorem itm_head (p base c : Nat) (s : List Lv) (A : Option Addr) (N cap a a2 : Nat) (zs : List Int) (k n er : Int) (w : World) (h : RdS w p base c s A N cap a zs) (hh : headE zs N a = (k, n, er, a2)) (he : er ≠ 0) :
    Calls Tryd.prog 44 #[.pointer (some ⟨p, 0, none⟩)] w (ItemP p base c s A N cap zs (er, noIt, a) w) := by
  have hp := h.plt
  have hb0 : Below w.heap.size w (w.alloc (.cells #[.int .i64 0, .int .u64 0, .string ⟨#[]⟩] 58)) := (Below.refl _ w).alloc (Nat.le_refl _) _
  have h0 := h.keep hb0
  have hH := hed_any p A N cap a zs _ h0.rd h0.by_
  rw [hh] at hH
  have HH := Lib.hid hH
  have HX := Lib.hid (Box.new w 0 0 ⟨#[]⟩)
  have HR0 := Lib.hid (RF.of_below hb0 hp)
  have hne : (er != 0) = true := by simpa using he
  clear h h0 hH hb0 hh
  go_enter Tryd.func44, Tryd.ntmps44
  go_wp2_with (go_at_call 64; refine HH.out.mono ?_; rintro e w2 ⟨rfl, hr2, _⟩; have hx2 := HX.out.rf hr2 (by omega); obtain ⟨y0, y1, y2, f0, f1, f2⟩ := hx2.cells; have HR2 := Lib.hid hr2; clear hr2 hx2)
  refine bodyPost_ret (v := .tuple #[itemV 0 0 ⟨#[]⟩, .int .i64 er]) (by simp [results, Tryd.results44, go_sem, y0, y1, y2]) rfl ⟨rfl, ?_, fun h0 => absurd h0 he⟩
  exact (((HR0.out.trans HR2.out).setNew (Nat.le_refl _) hp _ _).setNew (Nat.le_refl _) hp _ _).setNew (Nat.le_refl _) hp _ _

set_option maxHeartbeats 1000000 in
theorem itm_place (p base c : Nat) (s : List Lv) (A : Option Addr) (N cap a a2 : Nat) (zs : List Int) (k n er : Int) (w : World) (h : RdS w p base c s A N cap a zs) (hh : headE zs N a = (k, n, 0, a2)) (hpl : placeE c s k = er) (he : er ≠ 0) :
    Calls Tryd.prog 44 #[.pointer (some ⟨p, 0, none⟩)] w (ItemP p base c s A N cap zs (er, noIt, a) w) := by
  have hp := h.plt
  have hb0 : Below w.heap.size w (w.alloc (.cells #[.int .i64 0, .int .u64 0, .string ⟨#[]⟩] 58)) := (Below.refl _ w).alloc (Nat.le_refl _) _
  have h0 := h.keep hb0
  have hH := hed_any p A N cap a zs _ h0.rd h0.by_
  rw [hh] at hH
  have HH := Lib.hid hH
  have HX := Lib.hid (Box.new w 0 0 ⟨#[]⟩)
  have HR0 := Lib.hid (RF.of_below hb0 hp)
  have HS0 := Lib.hid h0
  have HP := Lib.hid hpl
  have hne : (er != 0) = true := by simpa using he
  clear h h0 hH hb0 hh hpl
  go_enter Tryd.func44, Tryd.ntmps44
  go_wp2_with (first
    | (go_at_call 64; refine HH.out.mono ?_; rintro e w2 ⟨rfl, hr2, hd2⟩; have hs2 := HS0.out.rf hr2 (hd2 rfl); obtain ⟨v2, hv2⟩ := hs2.nest; have hx2 := HX.out.rf hr2 (by omega); obtain ⟨y0, y1, y2, f0, f1, f2⟩ := hx2.cells; have HR2 := Lib.hid hr2; have HV2 := Lib.hid hv2; have HS2 := Lib.hid hs2; have HX2 := Lib.hid hx2; clear hr2 hx2 hd2 hv2 hs2)
    | (go_at_call 55; refine (place_any _ _ HV2.out).mono ?_; rintro e w3 ⟨rfl, m, rfl⟩; rw [HP.out]))
  refine bodyPost_ret (v := .tuple #[itemV 0 0 ⟨#[]⟩, .int .i64 er]) (by simp [results, Tryd.results44, go_sem, y0, y1, y2]) rfl ⟨rfl, ?_, fun h0 => absurd h0 he⟩
  exact ((((HR0.out.trans HR2.out).drewN _).setNew (Nat.le_refl _) hp _ _).setNew (Nat.le_refl _) hp _ _).setNew (Nat.le_refl _) hp _ _

set_option maxHeartbeats 1000000 in
theorem itm_large (p base c : Nat) (s : List Lv) (A : Option Addr) (N cap a a2 : Nat) (zs : List Int) (k n : Int) (w : World) (h : RdS w p base c s A N cap a zs) (hh : headE zs N a = (k, n, 0, a2)) (hpl : placeE c s k = 0) (hL : tooLargeB k n = true) :
    Calls Tryd.prog 44 #[.pointer (some ⟨p, 0, none⟩)] w (ItemP p base c s A N cap zs (8, noIt, a) w) := by
  have hp := h.plt
  have hb0 : Below w.heap.size w (w.alloc (.cells #[.int .i64 0, .int .u64 0, .string ⟨#[]⟩] 58)) := (Below.refl _ w).alloc (Nat.le_refl _) _
  have h0 := h.keep hb0
  have hH := hed_any p A N cap a zs _ h0.rd h0.by_
  rw [hh] at hH
  have HH := Lib.hid hH
  have HX := Lib.hid (Box.new w 0 0 ⟨#[]⟩)
  have HR0 := Lib.hid (RF.of_below hb0 hp)
  have HS0 := Lib.hid h0
  have HP := Lib.hid hpl
  have HL := Lib.hid hL
  clear h h0 hH hb0 hh hpl hL
  go_enter Tryd.func44, Tryd.ntmps44
  go_wp2_with (first
    | (go_at_call 64; refine HH.out.mono ?_; rintro e w2 ⟨rfl, hr2, hd2⟩; have hs2 := HS0.out.rf hr2 (hd2 rfl); obtain ⟨v2, hv2⟩ := hs2.nest; have hx2 := HX.out.rf hr2 (by omega); obtain ⟨y0, y1, y2, f0, f1, f2⟩ := hx2.cells; have HR2 := Lib.hid hr2; have HV2 := Lib.hid hv2; have HS2 := Lib.hid hs2; have HX2 := Lib.hid hx2; clear hr2 hx2 hd2 hv2 hs2)
    | (go_at_call 55; refine (place_any _ _ HV2.out).mono ?_; rintro e w3 ⟨rfl, m, rfl⟩; rw [HP.out])
    | (go_at_call 57; refine (tooLarge_any _ _ _).mono ?_; rintro e w4 ⟨rfl, rfl⟩; rw [HL.out]))
  refine bodyPost_ret (v := .tuple #[itemV 0 0 ⟨#[]⟩, .int .i64 8]) (by simp [results, Tryd.results44, go_sem, y0, y1, y2]) rfl ⟨rfl, ?_, fun h0 => by cases h0⟩
  exact ((((HR0.out.trans HR2.out).drewN _).setNew (Nat.le_refl _) hp _ _).setNew (Nat.le_refl _) hp _ _).setNew (Nat.le_refl _) hp _ _

set_option maxHeartbeats 1000000 in
theorem itm_short (p base c : Nat) (s : List Lv) (A : Option Addr) (N cap a a2 : Nat) (zs : List Int) (k n : Int) (w : World) (h : RdS w p base c s A N cap a zs) (hh : headE zs N a = (k, n, 0, a2)) (hpl : placeE c s k = 0) (hL : tooLargeB k n = false) (hD : hasDataB k = true) (hn : (N : Int) < a2 + n) (hn1 : n ≤ 18446744073709551615) :
    Calls Tryd.prog 44 #[.pointer (some ⟨p, 0, none⟩)] w (ItemP p base c s A N cap zs (1, noIt, a) w) := by
  have hp := h.plt
  have hb0 : Below w.heap.size w (w.alloc (.cells #[.int .i64 0, .int .u64 0, .string ⟨#[]⟩] 58)) := (Below.refl _ w).alloc (Nat.le_refl _) _
  have h0 := h.keep hb0
  have hH := hed_any p A N cap a zs _ h0.rd h0.by_
  rw [hh] at hH
  have HH := Lib.hid hH
  have HX := Lib.hid (Box.new w 0 0 ⟨#[]⟩)
  have HR0 := Lib.hid (RF.of_below hb0 hp)
  have HS0 := Lib.hid h0
  have HP := Lib.hid hpl
  have HL := Lib.hid hL
  have HD := Lib.hid hD
  clear h h0 hH hb0 hh hpl hL hD
  go_enter Tryd.func44, Tryd.ntmps44
  go_wp2_with (first
    | (go_at_call 64; refine HH.out.mono ?_; rintro e w2 ⟨rfl, hr2, hd2⟩; have hs2 := HS0.out.rf hr2 (hd2 rfl); obtain ⟨v2, hv2⟩ := hs2.nest; have hx2 := HX.out.rf hr2 (by omega); obtain ⟨y0, y1, y2, f0, f1, f2⟩ := hx2.cells; have HR2 := Lib.hid hr2; have HV2 := Lib.hid hv2; have HS2 := Lib.hid hs2; have HX2 := Lib.hid hx2; clear hr2 hx2 hd2 hv2 hs2)
    | fail)
  refine (place_b HS2.out k HP.out).mono ?_
  rintro e w3 ⟨rfl, hb3⟩
  clear y0 y1 y2 f0 f1 f2
  have hs3 := HS2.out.keep hb3
  have hx3 := HX2.out.keep hb3
  obtain ⟨z0, z1, z2, g0, g1, g2⟩ := hx3.cells
  have HB3 := Lib.hid (RF.of_below hb3 HS2.out.plt)
  have HS3 := Lib.hid hs3
  have HX3 := Lib.hid hx3
  clear hb3 hs3 hx3
  go_wp2_with (first
    | (go_at_call 57; refine (tooLarge_any _ _ _).mono ?_; rintro e w4 ⟨rfl, rfl⟩; rw [HL.out])
    | (go_at_call 65; refine (hasData_any _ _).mono ?_; rintro e w5 ⟨rfl, rfl⟩; rw [HD.out])
    | fail)
  have hb4 : Below w3.heap.size w3 (w3.alloc (.cells #[.int .i64 k, .int .u64 n, .string ⟨#[]⟩] 58)) := (Below.refl _ w3).alloc (Nat.le_refl _) _
  refine (tak_no p A N cap a2 n _ (HS3.out.keep hb4).rd hn hn1).mono ?_
  rintro e w5 ⟨rfl, q, hq⟩
  have hb5 : Below (w3.alloc (.cells #[.int .i64 k, .int .u64 n, .string ⟨#[]⟩] 58)).heap.size (w3.alloc (.cells #[.int .i64 k, .int .u64 n, .string ⟨#[]⟩] 58)) w5 := by rw [← hq]; exact ⟨rfl, rfl, rfl, Nat.le_refl _, fun _ _ => rfl⟩
  have hb35 := hb4.trans (hb5.mono hb4.size)
  clear hq hb4 hb5 z0 z1 z2 g0 g1 g2
  obtain ⟨y0, y1, y2, f0, f1, f2⟩ := (HX3.out.keep hb35).cells
  have HB5 := Lib.hid (RF.of_below hb35 HS3.out.plt)
  clear hb35
  go_wp2
  refine bodyPost_ret (v := .tuple #[itemV 0 0 ⟨#[]⟩, .int .i64 1]) (by simp [results, Tryd.results44, go_sem, y0, y1, y2]) rfl ⟨rfl, ?_, fun h0 => by cases h0⟩
  exact (((((HR0.out.trans HR2.out).trans HB3.out).trans HB5.out).setNew (Nat.le_refl _) hp _ _).setNew (Nat.le_refl _) hp _ _).setNew (Nat.le_refl _) hp _ _
end Go.Proofs.YtepinmeidjlmmaaDoor
