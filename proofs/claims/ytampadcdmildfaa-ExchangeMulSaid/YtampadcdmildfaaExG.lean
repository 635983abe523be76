/- The contracts of package exchange. -/
import Derived.Test.YtampadcdmildfaaExF
import Derived.Test.YtampadcdmildfaaExC
import Derived.Shelf.Bits.Mul64
namespace Go.Proofs.Ytampadcdmildfaa
open Go.RowKit
set_option maxRecDepth 100000

def Try.lays264_ren : Go.Shelf.Ren := ⟨fun | 264 => 18 | n => n, fun | 46 => 28 | 53 => 22 | n => n, fun | n => n⟩
theorem Try.lays264 : Go.Proofs.Lays.n264 Try.prog Try.lays264_ren := {
  mixed := by kernel_rfl
  f264 := Try.func18.trans (congrArg some (by kernel_rfl))
  t46 := Try.underlying28
  a46 := Try.isAgg28
  z46 := Try.sizeOf28
  v46 := Try.zeroValue28
  t53 := Try.underlying22
  a53 := Try.isAgg22
  z53 := Try.sizeOf22
  v53 := Try.zeroValue22 }
theorem div_any (h l : Nat) (w : World) (hl : l < 18446744073709551616) (hp : h < 2305843009213693951) :
    Calls Try.prog 26 #[.int .u64 (h : Int), .int .u64 (l : Int), .int .u64 2305843009213693951] w fun e w' => ∃ q : Int, e = .returned (.tuple #[.int .u64 q, .int .u64 (((h * 18446744073709551616 + l) % 2305843009213693951 : Nat) : Int)]) ∧ Below w.heap.size w w' := by
  by_cases h0 : h = 0
  · subst h0
    refine (div_zero_any l w hl).mono ?_
    rintro e w' ⟨q, rfl, hb⟩
    refine ⟨q, ?_, hb⟩
    rw [Nat.zero_mul, Nat.zero_add]
    rfl
  · refine (div_big_any h l w hl h0 hp).mono ?_
    rintro e w' ⟨q, rfl, rfl⟩
    exact ⟨q, rfl, Below.refl _ _⟩
theorem rem_any (h l : Nat) (w : World) (hh : h < 18446744073709551616) (hl : l < 18446744073709551616) :
    Calls Try.prog 19 #[.int .u64 (h : Int), .int .u64 (l : Int), .int .u64 2305843009213693951] w fun e w' => e = .returned (.int .u64 (((h * 18446744073709551616 + l) % 2305843009213693951 : Nat) : Int)) ∧ Below w.heap.size w w' := by
  obtain ⟨H, hH⟩ : ∃ H, h % 2305843009213693951 = H := ⟨_, rfl⟩
  have hHI : (h : Int) % 2305843009213693951 = (H : Int) := by omega
  have hHl : H < 2305843009213693951 := by omega
  obtain ⟨R, hR⟩ : ∃ R, (h * 18446744073709551616 + l) % 2305843009213693951 = R := ⟨_, rfl⟩
  have hr : (H * 18446744073709551616 + l) % 2305843009213693951 = R := by rw [← hR, ← hH, Nat.add_mod, Nat.mod_mul_mod, ← Nat.add_mod]
  have c := fun w => div_any H l w hl hHl
  rw [hr] at c
  rw [hR]
  have C := Lib.hid c
  clear c hr hR hH hHl
  go_enter Try.func19, Try.ntmps19
  go_wp2_with fail
  refine (C.out _).mono ?_
  rintro e w' ⟨q, rfl, hb⟩
  have HB := Lib.hid hb
  clear hb
  go_wp2
  go_ret
  exact ⟨rfl, HB.out⟩
theorem mulE_any (a b : Nat) (w : World) (ha : a < 18446744073709551616) (hb : b < 18446744073709551616) :
    Calls Try.prog 9 #[.int .u64 (a : Int), .int .u64 (b : Int)] w fun e w' => e = .returned (.int .u64 (mulN a b : Int)) ∧ Below w.heap.size w w' := by
  have c1 := fun w => Any.bits_Mul64 Try.lays264 a b ha hb w
  have hh : a * b / 18446744073709551616 < 18446744073709551616 := by
    rw [Nat.div_lt_iff_lt_mul (by decide)]
    exact Nat.mul_lt_mul'' ha hb
  have hl : a * b % 18446744073709551616 < 18446744073709551616 := Nat.mod_lt _ (by decide)
  have c2 := fun w => rem_any (a * b / 18446744073709551616) (a * b % 18446744073709551616) w hh hl
  rw [Nat.mul_comm (a * b / 18446744073709551616), Nat.div_add_mod, show a * b % 2305843009213693951 = mulN a b from rfl] at c2
  generalize mulN a b = R at *
  generalize a * b / 18446744073709551616 = x at *
  generalize a * b % 18446744073709551616 = y at *
  have C1 := Lib.hid c1
  have C2 := Lib.hid c2
  clear c1 c2 hh hl
  go_enter Try.func9, Try.ntmps9
  go_wp2_with fail
  refine (C1.out _).mono ?_
  rintro e w' ⟨rfl, rfl⟩
  go_wp2_with fail
  refine (C2.out _).mono ?_
  rintro e w' ⟨rfl, hb⟩
  have HB := Lib.hid hb
  clear hb
  go_wp2
  go_ret
  exact ⟨rfl, HB.out⟩
theorem sqr1 (p a n : Nat) (h : n % 2 = 1) : mulN (mulN p a) (powN (mulN a a) (n / 2)) = mulN p (powN a n) := by
  rw [powN_sq, mulN_assoc]
  obtain ⟨k, hk⟩ : ∃ k, n / 2 = k := ⟨_, rfl⟩
  have e : n = 2 * k + 1 := by omega
  rw [hk, e, powN_succ, mulN_comm a]
theorem sqr0 (p a n : Nat) (h : n % 2 = 0) : mulN p (powN (mulN a a) (n / 2)) = mulN p (powN a n) := by
  rw [powN_sq]
  obtain ⟨k, hk⟩ : ∃ k, n / 2 = k := ⟨_, rfl⟩
  have e : n = 2 * k := by omega
  rw [hk, e]
set_option maxHeartbeats 2000000 in
theorem powE_any (a n : Nat) (w : World) (ha : a < 18446744073709551616) (hn : n < 18446744073709551616) :
    Calls Try.prog 12 #[.int .u64 (a : Int), .int .u64 (n : Int)] w fun e w' => e = .returned (.int .u64 (powN a n : Int)) ∧ Below w.heap.size w w' := by
  have HW := Lib.hid (Below.refl w.heap.size w)
  have HA : Hid (mulN 1 (powN a n) = powN a n) := Lib.hid (by rw [mulN_comm, mulN_one _ (powN_lt _ _)])
  go_enter Try.func12, Try.ntmps12
  go_wp2_with fail
  go_loopw [0, 1, 5] (fun av nv pv wr => Hid (Below w.heap.size w wr) ∧ ∃ b m p : Nat, av = .int .u64 (b : Int) ∧ nv = .int .u64 (m : Int) ∧ pv = .int .u64 (p : Int) ∧ b < 18446744073709551616 ∧ m < 18446744073709551616 ∧ p < 2305843009213693951 ∧ Hid (mulN p (powN b m) = powN a n)) (fun _ nv _ _ => (intOf nv).toNat)
  case atStart => exact ⟨HW, a, n, 1, rfl, rfl, rfl, ha, hn, by decide, HA⟩
  case round =>
    obtain ⟨HB, b, m, p, rfl, rfl, rfl, hb, hm, hp, HR⟩ := hrel
    clear HA HW
    by_cases h0 : m = 0
    · subst h0
      have HQ : Hid (powN a n = p) := Lib.hid (by rw [← HR.out, powN_zero, mulN_one _ hp])
      clear HR
      go_wp2
      go_ret
      exact ⟨by rw [HQ.out]; rfl, HB.out⟩
    · have hpos : (0 : Int) < (m : Int) := by omega
      obtain ⟨q, hq⟩ : ∃ q, m / 2 = q := ⟨_, rfl⟩
      have hqI : (m : Int) / 2 = (q : Int) := by omega
      have hand := and1_ m hm
      have hbl := mulN_lt b b
      have hpl := mulN_lt p b
      have c1 := fun w => mulE_any b b w hb hb
      rcases (by omega : m % 2 = 0 ∨ m % 2 = 1) with hb0 | hb0
      · have HS : Hid (mulN p (powN (mulN b b) q) = powN a n) := Lib.hid (by rw [← hq, sqr0 p b m hb0]; exact HR.out)
        have hm2 : q < m := by omega
        rw [hb0] at hand
        clear hb0 HR hq h0 hpl
        generalize mulN b b = c at *
        have C1 := Lib.hid c1
        clear c1
        go_wp2_with fail
        refine (C1.out _).mono ?_
        rintro e w' ⟨rfl, hb1⟩
        have HB1 := Lib.hid (HB.out.trans (hb1.mono HB.out.size))
        clear hb1
        go_wp2
        go_roundw
        case rel => exact ⟨HB1, c, q, p, rfl, rfl, rfl, by omega, by omega, hp, HS⟩
        case measure => (simp [intOf] <;> omega)
      · have HS : Hid (mulN (mulN p b) (powN (mulN b b) q) = powN a n) := Lib.hid (by rw [← hq, sqr1 p b m hb0]; exact HR.out)
        have hm2 : q < m := by omega
        have c2 := fun w => mulE_any p b w (by omega) hb
        rw [hb0] at hand
        clear hb0 HR hq h0
        generalize mulN b b = c at *
        generalize mulN p b = d at *
        have C1 := Lib.hid c1
        have C2 := Lib.hid c2
        clear c1 c2
        go_wp2_with fail
        refine (C2.out _).mono ?_
        rintro e w' ⟨rfl, hb1⟩
        have HB1 := Lib.hid (HB.out.trans (hb1.mono HB.out.size))
        clear hb1
        go_wp2_with fail
        refine (C1.out _).mono ?_
        rintro e w2 ⟨rfl, hb2⟩
        have HB2 := Lib.hid (HB1.out.trans (hb2.mono HB1.out.size))
        clear hb2
        go_wp2
        go_roundw
        case rel => exact ⟨HB2, c, q, d, rfl, rfl, rfl, by omega, by omega, hpl, HS⟩
        case measure => (simp [intOf] <;> omega)
theorem expE_any (s : Nat) (w : World) (hs : s < 18446744073709551616) :
    Calls Try.prog 20 #[.int .u64 (s : Int)] w fun e w' => e = .returned (.int .u64 (expN s : Int)) ∧ w = w' := by
  have h1 : IntKind.u64.wrap (2 + (s : Int) % 2305843009213693948) = (expN s : Int) := by unfold expN; rw [IntKind.wrap_u64]; omega
  go_enter Try.func20, Try.ntmps20
  go_wp2
  go_ret
  exact ⟨rfl, rfl⟩
theorem pubE_any (s : Nat) (w : World) (hs : s < 18446744073709551616) :
    Calls Try.prog 16 #[.int .u64 (s : Int)] w fun e w' => e = .returned (.int .u64 (pubN s : Int)) ∧ Below w.heap.size w w' := by
  have he := expN_lt s
  go_enter Try.func16, Try.ntmps16
  go_wp2_with fail
  refine (expE_any s _ hs).mono ?_
  rintro e w' ⟨rfl, rfl⟩
  go_wp2_with fail
  refine (powE_any 37 (expN s) _ (by decide) (by omega)).mono ?_
  rintro e w' ⟨rfl, hb⟩
  have HB := Lib.hid hb
  clear hb
  go_wp2
  go_ret
  exact ⟨rfl, HB.out⟩
theorem shrE_no (s p : Nat) (w : World) (hp : p < 2 ∨ 2305843009213693949 < p) :
    Calls Try.prog 14 #[.int .u64 (s : Int), .int .u64 (p : Int)] w fun e w' => e = .returned (.tuple #[.int .u64 0, .int .i64 9]) ∧ w = w' := by
  rcases hp with hp | hp
  · have h1 : (p : Int) < 2 := by omega
    go_enter Try.func14, Try.ntmps14
    go_wp2
    go_ret2
    exact ⟨rfl, rfl⟩
  · have h1 : ¬ (p : Int) < 2 := by omega
    have h2 : (2305843009213693949 : Int) < (p : Int) := by omega
    go_enter Try.func14, Try.ntmps14
    go_wp2
    go_ret2
    exact ⟨rfl, rfl⟩
theorem shrE_ok (s p : Nat) (w : World) (hs : s < 18446744073709551616) (h2 : 2 ≤ p) (hp : p ≤ 2305843009213693949) :
    Calls Try.prog 14 #[.int .u64 (s : Int), .int .u64 (p : Int)] w fun e w' => e = .returned (.tuple #[.int .u64 (val (shrW s p)), .int .i64 0]) ∧ Below w.heap.size w w' := by
  have h1 : ¬ (p : Int) < 2 := by omega
  have h3 : ¬ (2305843009213693949 : Int) < (p : Int) := by omega
  have he := expN_lt s
  have hx := powN_lt p (expN s)
  go_enter Try.func14, Try.ntmps14
  go_wp2_with fail
  refine (expE_any s _ hs).mono ?_
  rintro e w' ⟨rfl, rfl⟩
  go_wp2_with fail
  refine (powE_any p (expN s) _ (by omega) (by omega)).mono ?_
  rintro e w1 ⟨rfl, hb1⟩
  obtain ⟨r, hr⟩ : ∃ r, BitVec.ofInt 64 (powN p (expN s) : Int) = r := ⟨_, rfl⟩
  have hv : (powN p (expN s) : Int) = val r := by rw [← hr]; exact val_of (by omega) (by omega)
  have hsw : shrW s p = sipHash 12 (wsBytes [r]) := by unfold shrW; rw [hr]
  rw [hv]
  have HSW := Lib.hid hsw
  have HB1 := Lib.hid hb1
  clear hv hsw hr hb1
  go_wp2_with fail
  refine (words_any (some ⟨w1.heap.size, 0, none⟩) 1 1 [r] _ (Ws.one w1 r) (by omega)).mono ?_
  rintro e w2 ⟨v2, rfl, ho, hb⟩
  obtain ⟨A2, k2, rfl, hk21, hk22, hby⟩ := own_bytes ho (wsBytes_rng _)
  have HY := Lib.hid hby
  have hb' := ((Below.refl w1.heap.size w1).alloc (Nat.le_refl _) (.cells #[.int .u64 (val r)] 22)).trans (hb.mono (by simp))
  have HB := Lib.hid (HB1.out.trans (hb'.mono HB1.out.size))
  clear ho hb hby hb'
  go_wp2_with fail
  refine (hash_any 12 A2 (8 * 1) k2 (wsBytes [r]) w2 HY.out hk21 hk22).mono ?_
  rintro e w3 ⟨rfl, hb3⟩
  have HB3 := Lib.hid (HB.out.trans (hb3.mono HB.out.size))
  clear hb3
  generalize sipHash 12 (wsBytes [r]) = q at *
  go_wp2
  go_ret2
  exact ⟨by rw [HSW.out]; rfl, HB3.out⟩
end Go.Proofs.Ytampadcdmildfaa
