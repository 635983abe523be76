/- The law TreekeyKeys. -/
import Derived.Test.YthgahjihgoiklaaTkU
namespace Go.Proofs.Ythgahjihgoiklaa
open Go.RowKit
set_option maxRecDepth 100000

theorem keys4_big (h : Int) (r : BitVec 64) (A : Option Addr) (n c : Nat) (z : Int) (w : World) (hn : 100 < n) :
    Calls Try.prog 8 #[.agg #[.int .i64 h, .int .u64 (val r)], .slice A n c, .int .u8 z] w fun e w' => e = .returned (.bool true) ∧ Below w.heap.size w w' := by
  have hnI : (100 : Int) < (n : Int) := by omega
  have hb0 := (Below.refl w.heap.size w).alloc (Nat.le_refl _) (.cells #[.int .i64 h, .int .u64 (val r)] 24)
  have hs0 := hb0.size
  have HB0 := Lib.hid hb0
  clear hb0
  go_enter Try.func8, Try.ntmps8
  go_wp2_with fail
  refine (awake4_any _).mono ?_
  rintro e w1 ⟨rfl, hb1⟩
  have HB1 := Lib.hid (HB0.out.trans (hb1.mono hs0))
  clear hb1
  go_wp2
  go_ret
  exact ⟨rfl, HB1.out⟩
set_option maxHeartbeats 2000000 in
theorem keys4_a (h : Int) (r : BitVec 64) (A : Option Addr) (n c : Nat) (zs : List Int) (Z y m : Nat) (w : World) (hB : Bytes w A n zs) (hc : n ≤ c) (hn : n ≤ 100) (hy : Z % 6 = y) (hm : 1 + n = m) (hle : n ≤ 8) :
    Calls Try.prog 8 #[.agg #[.int .i64 h, .int .u64 (val r)], .slice A n c, .int .u8 (Z : Int)] w fun e w' => e = .returned (.bool true) ∧ Below w.heap.size w w' := by
  have hnI : (n : Int) ≤ 100 := by omega
  have hyI : (Z : Int) % 6 = (y : Int) := by omega
  have hy5 : y ≤ 5 := by omega
  have hm1 : m ≤ 1 + n := by omega
  have HA := Lib.hid hB
  have hb0 := (Below.refl w.heap.size w).alloc (Nat.le_refl _) (.cells #[.int .i64 h, .int .u64 (val r)] 24)
  have hs0 := hb0.size
  have HB0 := Lib.hid hb0
  have HK0 := Lib.hid (Cs.new w 24 [.int .i64 h, .int .u64 (val r)])
  clear hb0 hB hy
  go_enter Try.func8, Try.ntmps8
  go_wp2_with fail
  refine (encK_all h r _).mono ?_
  rintro e w1 ⟨A1, c1, rfl, hy1, hb1⟩
  have hk1 := HK0.out.below hb1 (by simp)
  have k0 := hk1.cell 0
  have k1 := hk1.cell 1
  simp only [List.getElem?_cons_succ, List.getElem?_cons_zero] at k0 k1
  have HB1 := Lib.hid (HB0.out.trans (hb1.mono hs0))
  have hs1 := HB1.out.size
  have HX1 := Lib.hid hy1
  clear hy1 hb1 hk1 hs0
  go_wp2_with fail
  refine (encKR_all h r _).mono ?_
  rintro e w2 ⟨A2, c2, rfl, hy2, hb2⟩
  have HX2 := Lib.hid (HX1.out.below hb2)
  have HY2 := Lib.hid hy2
  have HB2 := Lib.hid (HB1.out.trans (hb2.mono hs1))
  have hs2 := HB2.out.size
  clear hb2 hy2 k0 k1 HX1
  go_wp2_with fail
  refine (decK_all A n c zs _ (HA.out.below HB2.out) hc).mono ?_
  rintro e w3 ⟨rfl, hb3⟩
  have HX3 := Lib.hid (HX2.out.below hb3)
  have HY3 := Lib.hid (HY2.out.below hb3)
  have HB3 := Lib.hid (HB2.out.trans (hb3.mono hs2))
  have hs3 := HB3.out.size
  clear hb3 HX2 HY2
  go_wp2_with fail
  have hb3' := HB3.out.alloc hs3 (.cells #[.int .i64 (dkH zs), .int .u64 (val (dkR zs))] 24)
  refine (decKR_all A n c zs _ (HA.out.below hb3') hc).mono ?_
  rintro e w4 ⟨rfl, hb4⟩
  have g3 := (Below.refl w3.heap.size w3).alloc (Nat.le_refl _) (.cells #[.int .i64 (dkH zs), .int .u64 (val (dkR zs))] 24)
  have HX4 := Lib.hid ((HX3.out.below g3).below hb4)
  have HY4 := Lib.hid ((HY3.out.below g3).below hb4)
  have HP4 := Lib.hid ((Cs.new w3 24 [.int .i64 (dkH zs), .int .u64 (val (dkR zs))]).below hb4 (by simp))
  have HB4 := Lib.hid (hb3'.trans (hb4.mono (by simp; omega)))
  have hs4 := HB4.out.size
  clear hb4 g3 hb3' HX3 HY3
  generalize hH1 : dkH zs = H1
  generalize hR1 : dkR zs = R1
  generalize hE1 : dkE zs = E1
  rw [hH1, hR1] at HP4
  clear hH1 hR1 hE1
  go_wp2_with (at_builtin; refine app_row rfl _ _ rfl (w4.heap.size + 1) _ 1 [(y : Int)] A n c zs (row_one_at (w4.alloc (.cells #[.int .i64 H1, .int .u64 (val R1)] 24)) (y : Int) (by simp) (by simp)) rfl (HA.out.below ((HB4.out.alloc hs4 _).alloc (by simp; omega) _)) rfl (by omega) (by simp) ?_)
  intro v5 w5 hr5 hb5
  obtain ⟨A5, c5, rfl, hc5, hc5', hy5b⟩ := hr5.bytes (by
    intro x hx
    rcases List.mem_cons.1 hx with rfl | hx
    · omega
    · exact HA.out.rng _ hx)
  have g4 := (((Below.refl w4.heap.size w4).alloc (Nat.le_refl _) (.cells #[.int .i64 H1, .int .u64 (val R1)] 24)).alloc (by simp) (.cells #[.int .u8 (y : Int)] 5)).trans (hb5.mono (by omega))
  have HQ5 := Lib.hid (((Cs.new w4 24 [.int .i64 H1, .int .u64 (val R1)]).grow (.cells #[.int .u8 (y : Int)] 5)).below hb5 (by omega))
  have HP5 := Lib.hid (HP4.out.below g4 HP4.out.lt)
  have HX5 := Lib.hid (HX4.out.below g4)
  have HY5 := Lib.hid (HY4.out.below g4)
  have HB5 := Lib.hid (HB4.out.trans (g4.mono hs4))
  have HT5 := Lib.hid (hy5b.take m (by omega))
  have hle1 : 1 + (n : Int) ≤ 9 := by omega
  have ht : (1 + (n : Int)).toNat = m := by omega
  have hmc : m ≤ c5 := by omega
  have hmcI : ((m : Nat) : Int) ≤ (c5 : Int) := by omega
  have hs5 := HB5.out.size
  clear g4 hb5 hr5 hy5b HX4 HY4 HP4 hc5
  generalize (y : Int) :: zs = zs2 at *
  go_wp2_with fail
  refine (decK_all A5 m c5 _ _ HT5.out hmc).mono ?_
  rintro e w6 ⟨rfl, hb6⟩
  have HX6 := Lib.hid (HX5.out.below hb6)
  have HY6 := Lib.hid (HY5.out.below hb6)
  have HT6 := Lib.hid (HT5.out.below hb6)
  have HP6 := Lib.hid (HP5.out.below hb6 HP5.out.lt)
  have HQ6 := Lib.hid (HQ5.out.below hb6 HQ5.out.lt)
  have HB6 := Lib.hid (HB5.out.trans (hb6.mono hs5))
  have hs6 := HB6.out.size
  clear hb6 HX5 HY5 HT5 HP5 HQ5
  go_wp2_with fail
  have g6 := (Below.refl w6.heap.size w6).alloc (Nat.le_refl _) (.cells #[.int .i64 (dkH (zs2.take m)), .int .u64 (val (dkR (zs2.take m)))] 24)
  refine (decKR_all A5 m c5 _ _ (HT6.out.below g6) hmc).mono ?_
  rintro e w7 ⟨rfl, hb7⟩
  have g7 := g6.trans (hb7.mono (by simp))
  have HX7 := Lib.hid (HX6.out.below g7)
  have HY7 := Lib.hid (HY6.out.below g7)
  have HP7 := Lib.hid (HP6.out.below g7 HP6.out.lt)
  have HQ7 := Lib.hid (HQ6.out.below g7 HQ6.out.lt)
  have HU7 := Lib.hid ((Cs.new w6 24 [.int .i64 (dkH (zs2.take m)), .int .u64 (val (dkR (zs2.take m)))]).below hb7 (by simp))
  have HB7 := Lib.hid (HB6.out.trans (g7.mono hs6))
  have hs7 := HB7.out.size
  clear g6 g7 hb7 HX6 HY6 HT6 HP6 HQ6
  generalize hH2 : dkH (zs2.take m) = H2
  generalize hR2 : dkR (zs2.take m) = R2
  generalize hE2 : dkE (zs2.take m) = E2
  rw [hH2, hR2] at HU7
  clear hH2 hR2 hE2
  have hbv := HB7.out.alloc hs7 (.cells #[.int .i64 H2, .int .u64 (val R2)] 24)
  have gv := (Below.refl w7.heap.size w7).alloc (Nat.le_refl _) (.cells #[.int .i64 H2, .int .u64 (val R2)] 24)
  have hx := conv_bytes (cap := c1) (HX7.out.below gv)
  have hy := conv_bytes (cap := c2) (HY7.out.below gv)
  have hp := HP7.out.grow (.cells #[.int .i64 H2, .int .u64 (val R2)] 24)
  have hq := HQ7.out.grow (.cells #[.int .i64 H2, .int .u64 (val R2)] 24)
  have hu := HU7.out.grow (.cells #[.int .i64 H2, .int .u64 (val R2)] 24)
  have hv := Cs.new w7 24 [.int .i64 H2, .int .u64 (val R2)]
  have p0 := hp.cell 0
  have p1 := hp.cell 1
  have q0 := hq.cell 0
  have q1 := hq.cell 1
  have u0 := hu.cell 0
  have u1 := hu.cell 1
  have v0 := hv.cell 0
  have v1 := hv.cell 1
  simp only [List.getElem?_cons_succ, List.getElem?_cons_zero] at p0 p1 q0 q1 u0 u1 v0 v1
  have HBV := Lib.hid hbv
  have hsv := hbv.size
  clear hbv gv hp hq hu hv HX7 HY7 HP7 HQ7 HU7
  generalize kE h = z1 at *
  generalize kN h = z2 at *
  generalize strOfNums (kB h r) = z3 at *
  go_wp2_with fail
  refine (awake4_any _).mono ?_
  rintro e w8 ⟨rfl, hb8⟩
  have HB8 := Lib.hid (HBV.out.trans (hb8.mono hsv))
  clear hb8 hx hy
  go_wp2
  go_ret
  exact ⟨rfl, HB8.out⟩
set_option maxHeartbeats 2000000 in
theorem keys4_b (h : Int) (r : BitVec 64) (A : Option Addr) (n c : Nat) (zs : List Int) (Z y : Nat) (w : World) (hB : Bytes w A n zs) (hc : n ≤ c) (hn : n ≤ 100) (hy : Z % 6 = y) (hle : 9 ≤ n) :
    Calls Try.prog 8 #[.agg #[.int .i64 h, .int .u64 (val r)], .slice A n c, .int .u8 (Z : Int)] w fun e w' => e = .returned (.bool true) ∧ Below w.heap.size w w' := by
  have hnI : (n : Int) ≤ 100 := by omega
  have hyI : (Z : Int) % 6 = (y : Int) := by omega
  have hy5 : y ≤ 5 := by omega
  have hm1 : 9 ≤ 1 + n := by omega
  have HA := Lib.hid hB
  have hb0 := (Below.refl w.heap.size w).alloc (Nat.le_refl _) (.cells #[.int .i64 h, .int .u64 (val r)] 24)
  have hs0 := hb0.size
  have HB0 := Lib.hid hb0
  have HK0 := Lib.hid (Cs.new w 24 [.int .i64 h, .int .u64 (val r)])
  clear hb0 hB hy
  go_enter Try.func8, Try.ntmps8
  go_wp2_with fail
  refine (encK_all h r _).mono ?_
  rintro e w1 ⟨A1, c1, rfl, hy1, hb1⟩
  have hk1 := HK0.out.below hb1 (by simp)
  have k0 := hk1.cell 0
  have k1 := hk1.cell 1
  simp only [List.getElem?_cons_succ, List.getElem?_cons_zero] at k0 k1
  have HB1 := Lib.hid (HB0.out.trans (hb1.mono hs0))
  have hs1 := HB1.out.size
  have HX1 := Lib.hid hy1
  clear hy1 hb1 hk1 hs0
  go_wp2_with fail
  refine (encKR_all h r _).mono ?_
  rintro e w2 ⟨A2, c2, rfl, hy2, hb2⟩
  have HX2 := Lib.hid (HX1.out.below hb2)
  have HY2 := Lib.hid hy2
  have HB2 := Lib.hid (HB1.out.trans (hb2.mono hs1))
  have hs2 := HB2.out.size
  clear hb2 hy2 k0 k1 HX1
  go_wp2_with fail
  refine (decK_all A n c zs _ (HA.out.below HB2.out) hc).mono ?_
  rintro e w3 ⟨rfl, hb3⟩
  have HX3 := Lib.hid (HX2.out.below hb3)
  have HY3 := Lib.hid (HY2.out.below hb3)
  have HB3 := Lib.hid (HB2.out.trans (hb3.mono hs2))
  have hs3 := HB3.out.size
  clear hb3 HX2 HY2
  go_wp2_with fail
  have hb3' := HB3.out.alloc hs3 (.cells #[.int .i64 (dkH zs), .int .u64 (val (dkR zs))] 24)
  refine (decKR_all A n c zs _ (HA.out.below hb3') hc).mono ?_
  rintro e w4 ⟨rfl, hb4⟩
  have g3 := (Below.refl w3.heap.size w3).alloc (Nat.le_refl _) (.cells #[.int .i64 (dkH zs), .int .u64 (val (dkR zs))] 24)
  have HX4 := Lib.hid ((HX3.out.below g3).below hb4)
  have HY4 := Lib.hid ((HY3.out.below g3).below hb4)
  have HP4 := Lib.hid ((Cs.new w3 24 [.int .i64 (dkH zs), .int .u64 (val (dkR zs))]).below hb4 (by simp))
  have HB4 := Lib.hid (hb3'.trans (hb4.mono (by simp; omega)))
  have hs4 := HB4.out.size
  clear hb4 g3 hb3' HX3 HY3
  generalize hH1 : dkH zs = H1
  generalize hR1 : dkR zs = R1
  generalize hE1 : dkE zs = E1
  rw [hH1, hR1] at HP4
  clear hH1 hR1 hE1
  go_wp2_with (at_builtin; refine app_row rfl _ _ rfl (w4.heap.size + 1) _ 1 [(y : Int)] A n c zs (row_one_at (w4.alloc (.cells #[.int .i64 H1, .int .u64 (val R1)] 24)) (y : Int) (by simp) (by simp)) rfl (HA.out.below ((HB4.out.alloc hs4 _).alloc (by simp; omega) _)) rfl (by omega) (by simp) ?_)
  intro v5 w5 hr5 hb5
  obtain ⟨A5, c5, rfl, hc5, hc5', hy5b⟩ := hr5.bytes (by
    intro x hx
    rcases List.mem_cons.1 hx with rfl | hx
    · omega
    · exact HA.out.rng _ hx)
  have g4 := (((Below.refl w4.heap.size w4).alloc (Nat.le_refl _) (.cells #[.int .i64 H1, .int .u64 (val R1)] 24)).alloc (by simp) (.cells #[.int .u8 (y : Int)] 5)).trans (hb5.mono (by omega))
  have HQ5 := Lib.hid (((Cs.new w4 24 [.int .i64 H1, .int .u64 (val R1)]).grow (.cells #[.int .u8 (y : Int)] 5)).below hb5 (by omega))
  have HP5 := Lib.hid (HP4.out.below g4 HP4.out.lt)
  have HX5 := Lib.hid (HX4.out.below g4)
  have HY5 := Lib.hid (HY4.out.below g4)
  have HB5 := Lib.hid (HB4.out.trans (g4.mono hs4))
  have HT5 := Lib.hid (hy5b.take 9 (by omega))
  have hle1 : 9 < 1 + (n : Int) := by omega
  have hmc : 9 ≤ c5 := by omega
  have hmcI : ((9 : Nat) : Int) ≤ (c5 : Int) := by omega
  have hs5 := HB5.out.size
  clear g4 hb5 hr5 hy5b HX4 HY4 HP4 hc5
  generalize (y : Int) :: zs = zs2 at *
  go_wp2_with fail
  refine (decK_all A5 9 c5 _ _ HT5.out hmc).mono ?_
  rintro e w6 ⟨rfl, hb6⟩
  have HX6 := Lib.hid (HX5.out.below hb6)
  have HY6 := Lib.hid (HY5.out.below hb6)
  have HT6 := Lib.hid (HT5.out.below hb6)
  have HP6 := Lib.hid (HP5.out.below hb6 HP5.out.lt)
  have HQ6 := Lib.hid (HQ5.out.below hb6 HQ5.out.lt)
  have HB6 := Lib.hid (HB5.out.trans (hb6.mono hs5))
  have hs6 := HB6.out.size
  clear hb6 HX5 HY5 HT5 HP5 HQ5
  go_wp2_with fail
  have g6 := (Below.refl w6.heap.size w6).alloc (Nat.le_refl _) (.cells #[.int .i64 (dkH (zs2.take 9)), .int .u64 (val (dkR (zs2.take 9)))] 24)
  refine (decKR_all A5 9 c5 _ _ (HT6.out.below g6) hmc).mono ?_
  rintro e w7 ⟨rfl, hb7⟩
  have g7 := g6.trans (hb7.mono (by simp))
  have HX7 := Lib.hid (HX6.out.below g7)
  have HY7 := Lib.hid (HY6.out.below g7)
  have HP7 := Lib.hid (HP6.out.below g7 HP6.out.lt)
  have HQ7 := Lib.hid (HQ6.out.below g7 HQ6.out.lt)
  have HU7 := Lib.hid ((Cs.new w6 24 [.int .i64 (dkH (zs2.take 9)), .int .u64 (val (dkR (zs2.take 9)))]).below hb7 (by simp))
  have HB7 := Lib.hid (HB6.out.trans (g7.mono hs6))
  have hs7 := HB7.out.size
  clear g6 g7 hb7 HX6 HY6 HT6 HP6 HQ6
  generalize hH2 : dkH (zs2.take 9) = H2
  generalize hR2 : dkR (zs2.take 9) = R2
  generalize hE2 : dkE (zs2.take 9) = E2
  rw [hH2, hR2] at HU7
  clear hH2 hR2 hE2
  have hbv := HB7.out.alloc hs7 (.cells #[.int .i64 H2, .int .u64 (val R2)] 24)
  have gv := (Below.refl w7.heap.size w7).alloc (Nat.le_refl _) (.cells #[.int .i64 H2, .int .u64 (val R2)] 24)
  have hx := conv_bytes (cap := c1) (HX7.out.below gv)
  have hy := conv_bytes (cap := c2) (HY7.out.below gv)
  have hp := HP7.out.grow (.cells #[.int .i64 H2, .int .u64 (val R2)] 24)
  have hq := HQ7.out.grow (.cells #[.int .i64 H2, .int .u64 (val R2)] 24)
  have hu := HU7.out.grow (.cells #[.int .i64 H2, .int .u64 (val R2)] 24)
  have hv := Cs.new w7 24 [.int .i64 H2, .int .u64 (val R2)]
  have p0 := hp.cell 0
  have p1 := hp.cell 1
  have q0 := hq.cell 0
  have q1 := hq.cell 1
  have u0 := hu.cell 0
  have u1 := hu.cell 1
  have v0 := hv.cell 0
  have v1 := hv.cell 1
  simp only [List.getElem?_cons_succ, List.getElem?_cons_zero] at p0 p1 q0 q1 u0 u1 v0 v1
  have HBV := Lib.hid hbv
  have hsv := hbv.size
  clear hbv gv hp hq hu hv HX7 HY7 HP7 HQ7 HU7
  generalize kE h = z1 at *
  generalize kN h = z2 at *
  generalize strOfNums (kB h r) = z3 at *
  go_wp2_with fail
  refine (awake4_any _).mono ?_
  rintro e w8 ⟨rfl, hb8⟩
  have HB8 := Lib.hid (HBV.out.trans (hb8.mono hsv))
  clear hb8 hx hy
  go_wp2
  go_ret
  exact ⟨rfl, HB8.out⟩
theorem keys4_law_at (h : Int) (r : BitVec 64) (A : Option Addr) (n c : Nat) (zs : List Int) (w : World) (hB : Bytes w A n zs) (hc : n ≤ c) (z : Int) (hz : 0 ≤ z ∧ z ≤ 255) :
    Calls Try.prog 8 #[.agg #[.int .i64 h, .int .u64 (val r)], .slice A n c, .int .u8 z] w fun e w' => e = .returned (.bool true) ∧ Below w.heap.size w w' := by
  obtain ⟨Z, rfl⟩ := Int.eq_ofNat_of_zero_le hz.1
  by_cases h1 : 100 < n
  · exact keys4_big h r A n c _ w h1
  · by_cases h2 : n ≤ 8
    · exact keys4_a h r A n c zs Z _ _ w hB hc (by omega) rfl rfl h2
    · exact keys4_b h r A n c zs Z _ w hB hc (by omega) rfl (by omega)
end Go.Proofs.Ythgahjihgoiklaa
