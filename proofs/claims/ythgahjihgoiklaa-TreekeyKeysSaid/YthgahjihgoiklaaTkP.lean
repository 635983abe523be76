/- The law TreekeySigns. -/
import Derived.Test.YthgahjihgoiklaaTkO
namespace Go.Proofs.Ythgahjihgoiklaa
open Go.RowKit
set_option maxRecDepth 100000

theorem sN_le (h l : Int) : sN h l ≤ 1000000 := by unfold sN; split <;> omega
theorem sM_le (h l : Int) : sM h l ≤ 1000000 := by
  unfold sM
  split
  · rename_i hh
    have := (leaf_lt hh).1
    rcases hgt_cases this with e | e | e | e | e <;> subst e <;> decide
  · omega
set_option maxHeartbeats 2000000 in
theorem signs_law (s m : BitVec 64) (h l : Int) (w : World) :
    Calls Try.prog 4 #[.int .u64 (val s), .int .i64 h, .int .i64 l, .int .u64 (val m)] w fun e w' => e = .returned (.bool true) ∧ Below w.heap.size w w' := by
  go_enter Try.func4, Try.ntmps4
  go_wp2_with fail
  refine (sign_all s m _ _ _).mono ?_
  obtain ⟨z, hz⟩ : ∃ z, wrap64 (bits .and .i64 h 7 - 1) = z := ⟨_, rfl⟩
  obtain ⟨y, hy⟩ : ∃ y, wrap64 (bits .and .i64 l 31 - 2) = y := ⟨_, rfl⟩
  rw [hz, hy]
  clear hz hy
  rintro e w1 ⟨A, c, B, c2, rfl, hA, hB, hb1⟩
  have HA := Lib.hid hA
  have HP := Lib.hid hB
  have HB1 := Lib.hid hb1
  have hs1 := hb1.size
  clear hb1 hA hB
  go_wp2_with fail
  refine (signR_all s m _ _ _).mono ?_
  rintro e w2 ⟨A', c', B', c2', rfl, hA', hB', hb2⟩
  have g1 := (Below.refl w1.heap.size w1).alloc (Nat.le_refl _) (.cells #[.int .i64 (sL z y), .slice A (sN z y) c, .slice B (sM z y) c2] 32)
  have hk2 := (Cs.new w1 32 [.int .i64 (sL z y), .slice A (sN z y) c, .slice B (sM z y) c2]).below hb2 (by simp)
  have g2 := g1.trans (hb2.mono (by simp))
  have HA2 := Lib.hid (HA.out.below g2)
  have HP2 := Lib.hid (HP.out.below g2)
  have HA2' := Lib.hid hA'
  have HP2' := Lib.hid hB'
  have HB2 := Lib.hid ((HB1.out.alloc hs1 (.cells #[.int .i64 (sL z y), .slice A (sN z y) c, .slice B (sM z y) c2] 32)).trans (hb2.mono (by simp; omega)))
  have HK2 := Lib.hid hk2
  have hl2 := hk2.lt
  have hs2 := HB2.out.size
  clear hb2 hk2 hA' hB' g1 g2
  go_wp2_with fail
  refine (sign_all s m _ _ _).mono ?_
  rintro e w3 ⟨A3, c3, B3, d3, rfl, -, -, hb3⟩
  have g2 := (Below.refl w2.heap.size w2).alloc (Nat.le_refl _) (.cells #[.int .i64 (sL z y), .slice A' (sN z y) c', .slice B' (sM z y) c2'] 32)
  have g3 := g2.trans (hb3.mono (by simp))
  have HA3 := Lib.hid (HA2.out.below g3)
  have HP3 := Lib.hid (HP2.out.below g3)
  have HA3' := Lib.hid (HA2'.out.below g3)
  have HP3' := Lib.hid (HP2'.out.below g3)
  have HK3 := Lib.hid (HK2.out.below g3 hl2)
  have hm3 := (Cs.new w2 32 [.int .i64 (sL z y), .slice A' (sN z y) c', .slice B' (sM z y) c2']).below hb3 (by simp)
  have HM3 := Lib.hid hm3
  have HB3 := Lib.hid ((HB2.out.alloc hs2 (.cells #[.int .i64 (sL z y), .slice A' (sN z y) c', .slice B' (sM z y) c2'] 32)).trans (hb3.mono (by simp; omega)))
  have hs3 := HB3.out.size
  have hlk3 := HK3.out.lt
  have hlm3 := hm3.lt
  clear hb3 hm3 g2 g3
  go_wp2_with fail
  refine (signR_all s m _ _ _).mono ?_
  rintro e w4 ⟨A4, c4, B4, d4, rfl, -, -, hb4⟩
  have g3 := (Below.refl w3.heap.size w3).alloc (Nat.le_refl _) (.cells #[.int .i64 (sL h l), .slice A3 (sN h l) c3, .slice B3 (sM h l) d3] 32)
  have g4 := g3.trans (hb4.mono (by simp))
  have HA4 := Lib.hid (HA3.out.below g4)
  have HP4 := Lib.hid (HP3.out.below g4)
  have HA4' := Lib.hid (HA3'.out.below g4)
  have HP4' := Lib.hid (HP3'.out.below g4)
  have hk4 := HK3.out.below g4 hlk3
  have hm4 := HM3.out.below g4 hlm3
  have HB4 := Lib.hid (HB3.out.trans (g4.mono hs3))
  clear g3 g4
  have hs4 := HB4.out.size
  have g5 := (Below.refl w4.heap.size w4).alloc (Nat.le_refl _) (.cells #[.int .i64 (sL h l), .slice A4 (sN h l) c4, .slice B4 (sM h l) d4] 32)
  have HA5 := Lib.hid (HA4.out.below g5)
  have HP5 := Lib.hid (HP4.out.below g5)
  have HA5' := Lib.hid (HA4'.out.below g5)
  have HP5' := Lib.hid (HP4'.out.below g5)
  have HB5 := Lib.hid (HB4.out.alloc hs4 (.cells #[.int .i64 (sL h l), .slice A4 (sN h l) c4, .slice B4 (sM h l) d4] 32))
  have hs5 := HB5.out.size
  clear g5 HA4 HP4 HA4' HP4'
  have k0 := (hk4.grow (.cells #[.int .i64 (sL h l), .slice A4 (sN h l) c4, .slice B4 (sM h l) d4] 32)).cell 0
  have k1 := (hk4.grow (.cells #[.int .i64 (sL h l), .slice A4 (sN h l) c4, .slice B4 (sM h l) d4] 32)).cell 1
  have k2 := (hk4.grow (.cells #[.int .i64 (sL h l), .slice A4 (sN h l) c4, .slice B4 (sM h l) d4] 32)).cell 2
  have m0 := (hm4.grow (.cells #[.int .i64 (sL h l), .slice A4 (sN h l) c4, .slice B4 (sM h l) d4] 32)).cell 0
  have m1 := (hm4.grow (.cells #[.int .i64 (sL h l), .slice A4 (sN h l) c4, .slice B4 (sM h l) d4] 32)).cell 1
  have m2 := (hm4.grow (.cells #[.int .i64 (sL h l), .slice A4 (sN h l) c4, .slice B4 (sM h l) d4] 32)).cell 2
  simp only [List.getElem?_cons_succ, List.getElem?_cons_zero] at k0 k1 k2 m0 m1 m2
  clear hb4 hk4 hm4 HK2 HK3 HM3 HA HP HA2 HP2 HA2' HP2' HA3 HP3 HA3' HP3'
  have hn1 := sN_le z y
  have hn2 := sM_le z y
  generalize sL z y = q1 at *
  generalize sE z y = q2 at *
  generalize sN z y = q3 at *
  generalize sM z y = q4 at *
  generalize sC s m z y = q5 at *
  generalize sP s z y = q6 at *
  generalize sE h l = q7 at *
  generalize sL h l = q8 at *
  generalize sN h l = q9 at *
  generalize sM h l = q10 at *
  go_wp2_with fail
  refine (same_sig q1 A A' B B' q3 c c' q4 c2 c2' q5 q6 _ HA5.out HA5'.out HP5.out HP5'.out hn1 hn2).mono ?_
  rintro e w6 ⟨rfl, hb6⟩
  have HB6 := Lib.hid (HB5.out.trans (hb6.mono hs5))
  have hs6 := HB6.out.size
  clear hb6
  go_wp2_with fail
  refine (awake4_any _).mono ?_
  rintro e w7 ⟨rfl, hb7⟩
  have HB7 := Lib.hid (HB6.out.trans (hb7.mono hs6))
  clear hb7
  go_wp2
  go_ret
  exact ⟨rfl, HB7.out⟩
theorem signs_law_at (x y : Int) (hx : 0 ≤ x ∧ x ≤ 18446744073709551615) (hy : 0 ≤ y ∧ y ≤ 18446744073709551615) (h l : Int) (w : World) :
    Calls Try.prog 4 #[.int .u64 x, .int .i64 h, .int .i64 l, .int .u64 y] w fun e w' => e = .returned (.bool true) ∧ Below w.heap.size w w' := by
  rw [val_of hx.1 hx.2, val_of hy.1 hy.2]
  exact signs_law _ _ h l w
end Go.Proofs.Ythgahjihgoiklaa
