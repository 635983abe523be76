/- A reader over any bytes: an argument that follows its first byte. -/
import Derived.Test.YtepinmeidjlmmaaDoorH1
namespace Go.Proofs.YtepinmeidjlmmaaDoor
open Go.RowKit
set_option maxRecDepth 100000

/-- a number out of its bytes, the most significant one first -/
def beV : List Int → Int
  | [] => 0
  | x :: r => x * 256 ^ r.length + beV r
def beTo (ys : List Int) (k : Nat) : Int := (ys.take k).foldl (fun n x => n * 256 + x) 0
theorem beTo_succ {ys : List Int} {k : Nat} (h : k < ys.length) : beTo ys (k + 1) = beTo ys k * 256 + ys.getD k 0 := by
  unfold beTo
  rw [List.take_succ_eq_append_getElem h, List.foldl_append]
  simp [List.getD, List.getElem?_eq_getElem h]
theorem beTo_bd (ys : List Int) (hr : ∀ z ∈ ys, 0 ≤ z ∧ z ≤ 255) : ∀ k, k ≤ ys.length → 0 ≤ beTo ys k ∧ beTo ys k < 256 ^ k
  | 0, _ => by simp [beTo]
  | k + 1, h => by
    have ih := beTo_bd ys hr k (by omega)
    rw [beTo_succ (by omega)]
    have hx : 0 ≤ ys.getD k 0 ∧ ys.getD k 0 ≤ 255 := by
      simp only [List.getD, List.getElem?_eq_getElem (show k < ys.length by omega), Option.getD_some]
      exact hr _ (List.getElem_mem _)
    have hp : (256 : Int) ^ (k + 1) = 256 ^ k * 256 := Int.pow_succ _ _
    rw [hp]
    generalize beTo ys k = n at *
    generalize (256 : Int) ^ k = P at *
    omega
theorem or_step (n x : Int) (h0 : 0 ≤ n) (h1 : n < 72057594037927936) (hx0 : 0 ≤ x) (hx1 : x ≤ 255) : bits .or .u64 (IntKind.u64.wrap (n * 256)) x = n * 256 + x := by
  obtain ⟨N, rfl⟩ := Int.eq_ofNat_of_zero_le h0
  obtain ⟨X, rfl⟩ := Int.eq_ofNat_of_zero_le hx0
  have hw : IntKind.u64.wrap ((N : Int) * 256) = ((N * 256 : Nat) : Int) := by rw [IntKind.wrap_u64]; omega
  rw [hw]
  show IntKind.u64.wrap ((BitVec.ofInt 64 ((N * 256 : Nat) : Int) ||| BitVec.ofInt 64 (X : Int)).toNat : Int) = _
  rw [BitVec.ofInt_natCast, BitVec.ofInt_natCast, BitVec.toNat_or, BitVec.toNat_ofNat, BitVec.toNat_ofNat, Nat.mod_eq_of_lt (by omega), Nat.mod_eq_of_lt (by omega)]
  have e : N * 256 ||| X = N * 256 + X := by
    have := Nat.two_pow_add_eq_or_of_lt (i := 8) (show X < 2 ^ 8 by omega) N
    rw [show 2 ^ 8 * N = N * 256 by omega] at this
    exact this.symm
  rw [e, IntKind.wrap_u64]
  omega
def widE (ys : List Int) (size : Nat) : Int × Int := if argSz (beTo ys size) = (size : Int) then (beTo ys size, 0) else (0, 2)
theorem wid_ok {ys : List Int} {size : Nat} (h : argSz (beTo ys size) = (size : Int)) : widE ys size = (beTo ys size, 0) := by unfold widE; rw [if_pos h]
theorem wid_bad {ys : List Int} {size : Nat} (h : ¬ argSz (beTo ys size) = (size : Int)) : widE ys size = (0, 2) := by unfold widE; rw [if_neg h]

set_option maxHeartbeats 1000000 in
theorem wide_short (p : Nat) (A : Option Addr) (N cap at' size : Nat) (w : World) (h : Rd w p A N cap at') (hs : size ≤ 8) (hn : N < at' + size) :
    Calls Tryd.prog 81 #[.pointer (some ⟨p, 0, none⟩), .int .i64 size] w fun e w' => e = .returned (.tuple #[.int .u64 0, .int .i64 1]) ∧ ∃ m, w.drewN m = w' := by
  have HT := Lib.hid (tak_no p A N cap at' (size : Int) w h (by omega) (by omega))
  clear h
  go_enter Tryd.func81, Tryd.ntmps81
  go_wp2_with (go_at_call 66; refine HT.out.mono ?_; rintro e w' ⟨rfl, m, rfl⟩)
  go_ret2
  exact ⟨rfl, m, rfl⟩

set_option maxHeartbeats 1000000 in
theorem wide_full (p : Nat) (A : Option Addr) (N cap at' size : Nat) (zs : List Int) (w : World) (h : Rd w p A N cap at') (hb : BysB w p A N zs) (hs : size ≤ 8) (hn : at' + size ≤ N) :
    Calls Tryd.prog 81 #[.pointer (some ⟨p, 0, none⟩), .int .i64 size] w fun e w' => e = .returned (.tuple #[.int .u64 (widE ((zs.drop at').take size) size).1, .int .i64 (widE ((zs.drop at').take size) size).2]) ∧ RF p w w' ∧ Rd w' p A N cap (at' + size) := by
  have HT := Lib.hid (tak_yes p A N cap at' size w h hn)
  have hp := cell_in h.pos
  have HB := Lib.hid hb
  have hcut := fun (W : World) (hW : RF p w W) => (hb.below (hW.below (Nat.le_of_lt hp))).1.cut at' size hn h.hcap
  have HC := Lib.hid hcut
  clear h hb hcut
  generalize hys : (zs.drop at').take size = ys at *
  have hlen : ys.length = size := by have := HB.out.1.len; rw [← hys]; simp; omega
  have hrng : ∀ z ∈ ys, 0 ≤ z ∧ z ≤ 255 := by rw [← hys]; exact fun z hz => HB.out.1.rng z (List.mem_of_mem_drop (List.mem_of_mem_take hz))
  have HBD := Lib.hid (beTo_bd ys hrng)
  clear hys hrng
  go_enter Tryd.func81, Tryd.ntmps81
  go_wp2_with (go_at_call 66; refine HT.out.mono ?_; rintro e w' ⟨rfl, hrf, hrd⟩)
  have HY := Lib.hid (HC.out w' hrf)
  have HR := Lib.hid hrf
  have HD := Lib.hid hrd
  clear hrf hrd
  generalize cutA A cap at' = A2 at *
  have HL := Lib.hid hlen
  clear hlen
  go_loop [4, 21] (fun n i => ∃ k : Nat, k ≤ size ∧ i = .int .i64 k ∧ n = .int .u64 (beTo ys k)) (fun _ i => size - (intOf i).toNat)
  case atStart => exact ⟨0, by omega, rfl, rfl⟩
  case round =>
    obtain ⟨k, hk, rfl, rfl⟩ := hrel
    by_cases hlt : k < size
    · obtain ⟨a, rfl, hc⟩ := HY.out.at_ k hlt
      obtain ⟨x0, x1⟩ := HY.out.byte k hlt
      have hsu := beTo_succ (ys := ys) (k := k) (by have := HL.out; omega)
      have hbd := HBD.out k (by have := HL.out; omega)
      have hp56 : (256 : Int) ^ k ≤ 72057594037927936 := by
        have h7 : k = 0 ∨ k = 1 ∨ k = 2 ∨ k = 3 ∨ k = 4 ∨ k = 5 ∨ k = 6 ∨ k = 7 := by omega
        rcases h7 with rfl | rfl | rfl | rfl | rfl | rfl | rfl | rfl <;> decide
      have hb1 : 0 ≤ beTo ys k ∧ beTo ys k < 72057594037927936 := by omega
      generalize ys.getD k 0 = x at *
      generalize beTo ys k = n at *
      have HS := Lib.hid hsu
      have HB1 := Lib.hid hb1
      clear hsu hbd hp56 hb1
      go_wp2
      go_round
      case rel => exact ⟨k + 1, by omega, by go_num, by rw [or_step n x HB1.out.1 HB1.out.2 x0 x1, HS.out]⟩
      case measure => (simp [intOf] <;> omega)
    · have hkn : k = size := by omega
      subst hkn
      have HA := Lib.hid (fun (W : World) => argSz_any (beTo ys k) W)
      by_cases hgood : argSz (beTo ys k) = (k : Int)
      · have HW := Lib.hid (wid_ok hgood)
        have hne : (argSz (beTo ys k) != (k : Int)) = false := by simp [hgood]
        generalize beTo ys k = n at *
        generalize hz : argSz n = z at *
        have HZ := Lib.hid hz
        have HG := Lib.hid hgood
        clear hz hgood
        go_wp2_with (go_at_call 75; refine (HA.out _).mono ?_; rintro e w9 ⟨rfl, rfl⟩)
        go_ret2
        exact ⟨by rw [HW.out]; rfl, HR.out, HD.out⟩
      · have HW := Lib.hid (wid_bad hgood)
        have hne : (argSz (beTo ys k) != (k : Int)) = true := by simp [hgood]
        generalize beTo ys k = n at *
        generalize hz : argSz n = z at *
        have HZ := Lib.hid hz
        clear hz hgood
        go_wp2_with (go_at_call 75; refine (HA.out _).mono ?_; rintro e w9 ⟨rfl, rfl⟩)
        go_ret2
        exact ⟨by rw [HW.out]; rfl, HR.out, HD.out⟩
end Go.Proofs.YtepinmeidjlmmaaDoor
