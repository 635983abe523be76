/- Read of the reference; Program and Erase: one answer each for any arguments. -/
import Derived.Test.YtgoajnljgbcmdaaFlD
namespace Go.Proofs.Ytgoajnljgbcmdaa
open Go.RowKit
set_option maxRecDepth 100000
set_option maxHeartbeats 2000000 in
theorem readR_ok (p q a m n c : Nat) (A : Addr) (zs : List Int) (w : World) (hA : Bytes w (some A) n zs) (hE : areE (p : Int) n (q : Int) (a : Int) (m : Int) = 0) (h1 : 512 ≤ p) (h2 : p ≤ 8192) (hn : n ≤ 65536) (hc : n ≤ c) (hcm : c ≤ 9223372036854775807) (ha : a + m ≤ p) (hs : q * p + a + m ≤ n) (hlt : q * p + a < c) :
    Calls Try.prog 18 #[.agg #[.int .i64 (p : Int), .slice (some A) n c], .int .i64 (q : Int), .int .i64 (a : Int), .int .i64 (m : Int)] w (GivesR (rdL zs (q * p + a) m) 0 w) := by
  obtain ⟨t, ht⟩ : ∃ t, q * p = t := ⟨_, rfl⟩
  have htI : (q : Int) * (p : Int) = (t : Int) := by rw [← ht]; exact (Int.natCast_mul _ _).symm
  have htl : t ≤ 65536 := by omega
  rw [ht] at hs hlt
  rw [ht]
  obtain ⟨s, hsx⟩ : ∃ s, t + a = s := ⟨_, rfl⟩
  have hsI : (t : Int) + (a : Int) = (s : Int) := by omega
  rw [hsx] at hs hlt
  rw [hsx]
  obtain ⟨e, he⟩ : ∃ e, s + m = e := ⟨_, rfl⟩
  have heI : (s : Int) + (m : Int) = (e : Int) := by omega
  have hen : e ≤ n := by omega
  have Ws := Lib.hid (wrap_nat s (by omega))
  have We := Lib.hid (wrap_nat e (by omega))
  have Wt := Lib.hid (wrap_nat t (by omega))
  have hec : (e : Int) ≤ (c : Int) := by omega
  have hse : (s : Int) ≤ (e : Int) := by omega
  have hsc : ¬ c = s := by omega
  have hsc2 : ¬ c - s = 0 := by omega
  have hEs : e - s = m := by omega
  have hX0 := hA.drop (cap := c) s (by omega) hc
  rw [if_neg (by omega)] at hX0
  have hX1 : Bytes w (some (A.add s)) (e - s) (rdL zs s m) := by
    have h := hX0.take (e - s) (by omega)
    rw [hEs] at h ⊢
    exact h
  have HX := Lib.hid hX1
  have HQ : Hid (0 + (e - s) ≤ 100000000000000) := Lib.hid (by omega)
  have HRR : Hid (∀ z ∈ rdL zs s m, 0 ≤ z ∧ z ≤ 255) := Lib.hid hX1.rng
  clear hX0 hX1 hEs
  have c1 := fun w => areR_any (p : Int) (some A) n c (q : Int) (a : Int) (m : Int) w (by omega)
  rw [hE] at c1
  have C1 := Lib.hid c1
  have hb0 := (Below.refl w.heap.size w).alloc (Nat.le_refl _) (.cells #[.int .i64 (p : Int), .slice (some A) n c] 24)
  have hf := Cs.new w 24 [.int .i64 (p : Int), .slice (some A) n c]
  have HF := Lib.hid hf
  have HB1 := Lib.hid hb0
  have HH := Lib.hid (And.intro hs (And.intro hlt hen))
  clear c1 ht hA hE hf hb0 hsx he hs hlt hen htl ha hn hc hcm h1 h2
  have hsw := Ws.out
  have hew := We.out
  have htw := Wt.out
  go_enter Try.func18, Try.ntmps18
  go_wp2_with fail
  refine (C1.out _).mono ?_
  rintro e' w1 ⟨rfl, hb1⟩
  have hf1 := HF.out.below hb1 (by simp)
  have HB2 := Lib.hid (HB1.out.trans (hb1.mono HB1.out.size))
  have k0 := hf1.cell 0
  have k1 := hf1.cell 1
  simp only [List.getElem?_cons_succ, List.getElem?_cons_zero] at k0 k1
  clear hb1 hf1
  have HX1 := Lib.hid (HX.out.below HB2.out)
  go_wp2_with (at_builtin; refine app_row rfl _ _ rfl w1.heap.size (.slice none 0 0) 0 [] (some (A.add s)) (e - s) (c - s) (rdL zs s m) (Row.nil _ _) rfl HX1.out rfl HQ.out (Nat.le_refl _) ?_)
  intro v2 w2 hr2 hb2
  try simp only [Nat.zero_add, List.nil_append] at hr2
  obtain ⟨A2, c2, rfl, hk2, hm2, hy2⟩ := hr2.bytes HRR.out
  have HY2 := Lib.hid hy2
  have HB3 := Lib.hid (HB2.out.trans (hb2.mono HB2.out.size))
  clear hr2 hy2 hb2
  go_wp2
  go_ret2
  exact ⟨A2, _, c2, rfl, HY2.out, hk2, hm2, HB3.out⟩
set_option maxHeartbeats 2000000 in
theorem readR_end (p q a s : Nat) (A : Addr) (zs : List Int) (w : World) (hA : Bytes w (some A) s zs) (hE : areE (p : Int) s (q : Int) (a : Int) 0 = 0) (hs0 : s ≤ 65536) (hs : q * p + a = s) :
    Calls Try.prog 18 #[.agg #[.int .i64 (p : Int), .slice (some A) s s], .int .i64 (q : Int), .int .i64 (a : Int), .int .i64 0] w (GivesR [] 0 w) := by
  obtain ⟨t, ht⟩ : ∃ t, q * p = t := ⟨_, rfl⟩
  have htI : (q : Int) * (p : Int) = (t : Int) := by rw [← ht]; exact (Int.natCast_mul _ _).symm
  rw [ht] at hs
  have hsI : (t : Int) + (a : Int) = (s : Int) := by omega
  have Ws := Lib.hid (wrap_nat s (by omega))
  have Wt := Lib.hid (wrap_nat t (by omega))
  have c1 := fun w => areR_any (p : Int) (some A) s s (q : Int) (a : Int) 0 w (by omega)
  rw [hE] at c1
  have C1 := Lib.hid c1
  have hX : Bytes w (some A) 0 [] := hA.take 0 (Nat.zero_le _)
  have HX := Lib.hid hX
  have hb0 := (Below.refl w.heap.size w).alloc (Nat.le_refl _) (.cells #[.int .i64 (p : Int), .slice (some A) s s] 24)
  have hf := Cs.new w 24 [.int .i64 (p : Int), .slice (some A) s s]
  have HF := Lib.hid hf
  have HB1 := Lib.hid hb0
  clear c1 ht hA hE hf hb0 hX hs hs0
  have hsw := Ws.out
  have htw := Wt.out
  go_enter Try.func18, Try.ntmps18
  go_wp2_with fail
  refine (C1.out _).mono ?_
  rintro e' w1 ⟨rfl, hb1⟩
  have hf1 := HF.out.below hb1 (by simp)
  have HB2 := Lib.hid (HB1.out.trans (hb1.mono HB1.out.size))
  have k0 := hf1.cell 0
  have k1 := hf1.cell 1
  simp only [List.getElem?_cons_succ, List.getElem?_cons_zero] at k0 k1
  clear hb1 hf1
  have HX1 := Lib.hid (HX.out.below HB2.out)
  go_wp2_with (at_builtin; refine app_row rfl _ _ rfl w1.heap.size (.slice none 0 0) 0 [] (some A) 0 0 [] (Row.nil _ _) rfl HX1.out rfl (by decide) (Nat.le_refl _) ?_)
  intro v2 w2 hr2 hb2
  try simp only [Nat.zero_add, List.nil_append] at hr2
  obtain ⟨A2, c2, rfl, hk2, hm2, hy2⟩ := hr2.bytes (fun z hz => by cases hz)
  have HY2 := Lib.hid hy2
  have HB3 := Lib.hid (HB2.out.trans (hb2.mono HB2.out.size))
  clear hr2 hy2 hb2
  go_wp2
  go_ret2
  exact ⟨A2, _, c2, rfl, HY2.out, hk2, hm2, HB3.out⟩
set_option maxHeartbeats 2000000 in
theorem readR_bad (P : Int) (A : Option Addr) (n c : Nat) (pg a k : Int) (w : World) (hn : n ≤ 9223372036854775807) (hE : ¬ areE P n pg a k = 0) :
    Calls Try.prog 18 #[.agg #[.int .i64 P, .slice A n c], .int .i64 pg, .int .i64 a, .int .i64 k] w (GivesR [] (areE P n pg a k) w) := by
  have HB0 := Lib.hid ((Below.refl w.heap.size w).alloc (Nat.le_refl _) (.cells #[.int .i64 P, .slice A n c] 24))
  have c1 := fun w => areR_any P A n c pg a k w hn
  generalize areE P n pg a k = E at *
  have C1 := Lib.hid c1
  clear c1
  go_enter Try.func18, Try.ntmps18
  go_wp2_with fail
  refine (C1.out _).mono ?_
  rintro e' w1 ⟨rfl, hb1⟩
  have HB2 := Lib.hid (HB0.out.trans (hb1.mono HB0.out.size))
  clear hb1
  go_wp2
  go_ret2
  exact ⟨none, 0, 0, rfl, ⟨rfl, fun z hz => by (cases hz), fun i hi => absurd hi (by omega)⟩, Nat.le_refl _, by omega, HB2.out⟩
theorem readR_all (P : Int) (A : Option Addr) (n c : Nat) (zs : List Int) (pg a k : Int) (w : World) (hA : Bytes w A n zs) (hc : n ≤ c) (hcm : c ≤ 9223372036854775807) :
    Calls Try.prog 18 #[.agg #[.int .i64 P, .slice A n c], .int .i64 pg, .int .i64 a, .int .i64 k] w (GivesR (ifE (areE P n pg a k) (rdL zs (fromE P pg a) k.toNat) []) (areE P n pg a k) w) := by
  by_cases hE : areE P n pg a k = 0
  · rw [hE]
    show Calls _ _ _ _ (GivesR (rdL zs (fromE P pg a) k.toNat) 0 w)
    obtain ⟨p, q, b, m, rfl, rfl, rfl, rfl, h1, h2, hn, _, hbm, hs, hv⟩ := areE_ok hE
    have hn0 : 0 < n := (valE_ok hv).elim fun _ h => h.2.2.2.1
    obtain ⟨A, rfl, _⟩ := hA.at_ 0 hn0
    rw [fromE_nat, Int.toNat_natCast]
    by_cases hlt : q * p + b < c
    · exact readR_ok p q b m n c A zs w hA hE h1 h2 hn hc hcm hbm hs hlt
    · obtain rfl : m = 0 := by omega
      obtain rfl : c = n := by omega
      have hl : rdL zs (q * p + b) 0 = [] := by unfold rdL; rw [List.take_zero]
      rw [hl]
      exact readR_end p q b c A zs w hA hE hn (by omega)
  · rw [ifE_no hE]
    exact readR_bad P A n c pg a k w (by omega) hE
theorem page_fits {p n q : Nat} {a k : Int} (h : areE (p : Int) n (q : Int) a k = 0) : q * p + p ≤ n := by
  unfold areE at h
  by_cases h1 : valE (p : Int) n ≠ 0
  · rw [if_pos h1] at h
    exact absurd h h1
  · rw [if_neg h1] at h
    by_cases h7 : (q : Int) < 0 ∨ ((n / (p : Int).toNat : Nat) : Int) ≤ (q : Int) ∨ a < 0 ∨ k < 0 ∨ (p : Int) < a ∨ (p : Int) - a < k
    · rw [if_pos h7] at h
      omega
    · simp only [Int.toNat_natCast] at h7
      obtain ⟨_, e, hp, _⟩ := valE_ok (show valE (p : Int) n = 0 by omega)
      have hq : q + 1 ≤ n / p := by omega
      have h8 : (q + 1) * p ≤ n := (Nat.le_div_iff_mul_le (by omega)).1 hq
      rw [Nat.add_mul, Nat.one_mul] at h8
      exact h8
theorem prgR_all (P : Int) (A B : Option Addr) (n c m d : Nat) (zs bs : List Int) (pg a b : Int) (w : World) (hA : Bytes w A n zs) (hB : Bytes w B m bs) (hn : n ≤ 9223372036854775807) (hb : b ≤ 9223372036854775807) :
    Calls Try.prog 27 #[.agg #[.int .i64 P, .slice A n c], .int .i64 pg, .int .i64 a, .slice B m d, .int .i64 b] w (GivesP (areE P n pg a (m : Int)) P (chgL zs (fromE P pg a) (prgG bs) (doneN b m)) (leftB b m) (powE6 b m) w) := by
  by_cases hE : areE P n pg a (m : Int) = 0
  · unfold GivesP
    rw [hE]
    show Calls _ _ _ _ (GivesF P (chgL zs (fromE P pg a) (prgG bs) (doneN b m)) (leftB b m) (powE6 b m) w)
    obtain ⟨p, q, x, k, rfl, rfl, rfl, hk, h1, h2, hn2, _, hbm, hs, hv⟩ := areE_ok hE
    obtain rfl : m = k := by omega
    have hn0 : 0 < n := (valE_ok hv).elim fun _ h => h.2.2.2.1
    rw [fromE_nat]
    exact prgR_ok p q x m n c d A B zs bs b w hA hB hE h1 h2 hn0 hn2 hbm hs hb
  · unfold GivesP
    rw [ifE_no hE, ifE_no hE, ifE_no hE, ifE_no hE]
    exact prgR_bad P A B n c m d pg a b w hn hE
theorem eraR_all (P : Int) (A : Option Addr) (n c : Nat) (zs : List Int) (pg b : Int) (w : World) (hA : Bytes w A n zs) (hn : n ≤ 9223372036854775807) (hb : b ≤ 9223372036854775807) :
    Calls Try.prog 29 #[.agg #[.int .i64 P, .slice A n c], .int .i64 pg, .int .i64 b] w (GivesP (areE P n pg 0 0) P (chgL zs (fromE P pg 0) eraG (doneN b P.toNat)) (leftB b P.toNat) (powE6 b P.toNat) w) := by
  by_cases hE : areE P n pg 0 0 = 0
  · unfold GivesP
    have hE2 := hE
    rw [hE]
    show Calls _ _ _ _ (GivesF P (chgL zs (fromE P pg 0) eraG (doneN b P.toNat)) (leftB b P.toNat) (powE6 b P.toNat) w)
    obtain ⟨p, q, x, k, rfl, rfl, hx, hk, h1, h2, hn2, _, _, _, hv⟩ := areE_ok hE
    have hp := page_fits hE2
    have e0 := fromE_nat p q 0
    rw [Nat.add_zero] at e0
    rw [Int.toNat_natCast, show fromE (p : Int) (q : Int) 0 = q * p from e0]
    exact eraR_ok p q n c A zs b w hA hE2 h1 h2 hn2 hp hb
  · unfold GivesP
    rw [ifE_no hE, ifE_no hE, ifE_no hE, ifE_no hE]
    exact eraR_bad P A n c pg b w hn hE
end Go.Proofs.Ytgoajnljgbcmdaa
