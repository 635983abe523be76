/- The public number and the shared key of the reference. -/
import Derived.Test.YtampadcdmildfaaExB
import Derived.Test.YtampadcdmildfaaSipR
namespace Go.Proofs.Ytampadcdmildfaa
open Go.RowKit
set_option maxRecDepth 100000

theorem expN_lt (s : Nat) : expN s < 2305843009213693951 := by unfold expN; omega
theorem hashR_any (d : Int) (A : Option Addr) (n cap : Nat) (zs : List Int) (w : World) (hb : Bytes w A n zs) (hn : n ≤ 1000000000000) :
    Calls Try.prog 23 #[.int .i64 d, .slice A n cap] w fun e w' => e = .returned (.int .u64 (val (sipHash d zs))) ∧ Below w.heap.size w w' := by
  have hz : (0 : Int) = val 0#64 := rfl
  have hS := sumR_any (BitVec.ofInt 64 d) 0#64 A n cap zs w hb hn
  rw [← hz] at hS
  have HS := Lib.hid hS
  clear hz hS
  go_enter Try.func23, Try.ntmps23
  go_wp2_with fail
  rw [val_wrap]
  refine HS.out.mono ?_
  rintro e w' ⟨rfl, hb'⟩
  go_wp2
  go_ret
  exact ⟨rfl, hb'⟩
theorem expR_any (s : Nat) (w : World) (hs : s < 18446744073709551616) :
    Calls Try.prog 25 #[.int .u64 (s : Int)] w fun e w' => e = .returned (.int .u64 (expN s : Int)) ∧ w = w' := by
  have h1 : IntKind.u64.wrap (2 + (s : Int) % 2305843009213693948) = (expN s : Int) := by unfold expN; rw [IntKind.wrap_u64]; omega
  go_enter Try.func25, Try.ntmps25
  go_wp2
  go_ret
  exact ⟨rfl, rfl⟩
/-- the public number of a secret, the shared key -/
def pubN (s : Nat) : Nat := powN 37 (expN s)
def shrW (s p : Nat) : BitVec 64 := sipHash 12 (wsBytes [BitVec.ofInt 64 (powN p (expN s) : Int)])
theorem pubR_any (s : Nat) (w : World) (hs : s < 18446744073709551616) :
    Calls Try.prog 17 #[.int .u64 (s : Int)] w fun e w' => e = .returned (.int .u64 (pubN s : Int)) ∧ w = w' := by
  have he := expN_lt s
  go_enter Try.func17, Try.ntmps17
  go_wp2_with fail
  refine (expR_any s _ hs).mono ?_
  rintro e w' ⟨rfl, rfl⟩
  go_wp2_with fail
  refine (powR_any 37 (expN s) _ (by decide) (by omega)).mono ?_
  rintro e w' ⟨rfl, rfl⟩
  go_wp2
  go_ret
  exact ⟨rfl, rfl⟩
theorem shrR_no (s p : Nat) (w : World) (hp : p < 2 ∨ 2305843009213693949 < p) :
    Calls Try.prog 15 #[.int .u64 (s : Int), .int .u64 (p : Int)] w fun e w' => e = .returned (.tuple #[.int .u64 0, .int .i64 9]) ∧ w = w' := by
  rcases hp with hp | hp
  · have h1 : (p : Int) < 2 := by omega
    go_enter Try.func15, Try.ntmps15
    go_wp2
    go_ret2
    exact ⟨rfl, rfl⟩
  · have h1 : ¬ (p : Int) < 2 := by omega
    have h2 : (2305843009213693949 : Int) < (p : Int) := by omega
    go_enter Try.func15, Try.ntmps15
    go_wp2
    go_ret2
    exact ⟨rfl, rfl⟩
theorem shrR_ok (s p : Nat) (w : World) (hs : s < 18446744073709551616) (h2 : 2 ≤ p) (hp : p ≤ 2305843009213693949) :
    Calls Try.prog 15 #[.int .u64 (s : Int), .int .u64 (p : Int)] w fun e w' => e = .returned (.tuple #[.int .u64 (val (shrW s p)), .int .i64 0]) ∧ Below w.heap.size w w' := by
  have h1 : ¬ (p : Int) < 2 := by omega
  have h3 : ¬ (2305843009213693949 : Int) < (p : Int) := by omega
  have he := expN_lt s
  have hx := powN_lt p (expN s)
  go_enter Try.func15, Try.ntmps15
  go_wp2_with fail
  refine (expR_any s _ hs).mono ?_
  rintro e w' ⟨rfl, rfl⟩
  go_wp2_with fail
  refine (powR_any p (expN s) _ (by omega) (by omega)).mono ?_
  rintro e w' ⟨rfl, rfl⟩
  obtain ⟨r, hr⟩ : ∃ r, BitVec.ofInt 64 (powN p (expN s) : Int) = r := ⟨_, rfl⟩
  have hv : (powN p (expN s) : Int) = val r := by rw [← hr]; exact val_of (by omega) (by omega)
  have hsw : shrW s p = sipHash 12 (wsBytes [r]) := by unfold shrW; rw [hr]
  rw [hv]
  have HSW := Lib.hid hsw
  clear hv hsw hr
  go_wp2_with fail
  refine (wordsR_any (some ⟨w.heap.size, 0, none⟩) 1 1 [r] _ (Ws.one w r) (by omega)).mono ?_
  rintro e w2 ⟨v2, rfl, ho, hb⟩
  obtain ⟨A2, k2, rfl, _, _, hby⟩ := own_bytes ho (wsBytes_rng _)
  have HY := Lib.hid hby
  have HB := Lib.hid (((Below.refl w.heap.size w).alloc (Nat.le_refl _) (.cells #[.int .u64 (val r)] 22)).trans (hb.mono (by simp)))
  clear ho hb hby
  go_wp2_with fail
  refine (hashR_any 12 A2 (8 * 1) k2 (wsBytes [r]) w2 HY.out (by omega)).mono ?_
  rintro e w3 ⟨rfl, hb3⟩
  have HB3 := Lib.hid (HB.out.trans (hb3.mono HB.out.size))
  clear hb3
  generalize sipHash 12 (wsBytes [r]) = q at *
  go_wp2
  go_ret2
  exact ⟨by rw [HSW.out]; rfl, HB3.out⟩
end Go.Proofs.Ytampadcdmildfaa
