/- Program and Erase of the program: one answer for any arguments. -/
import Derived.Test.YtgoajnljgbcmdaaFpC
namespace Go.Proofs.Ytgoajnljgbcmdaa
open Go.RowKit
set_option maxRecDepth 100000

theorem Cs.new3 (w : World) (o1 o2 : Obj) (t : TypeId) (vs : List Value) : Cs (((w.alloc o1).alloc o2).alloc (.cells vs.toArray t)) (w.heap.size + 2) t vs := by
  have := Cs.new ((w.alloc o1).alloc o2) t vs
  have e : ((w.alloc o1).alloc o2).heap.size = w.heap.size + 2 := by simp
  rw [e] at this
  exact this
theorem are_page (P : Int) (n : Nat) (pg : Int) : areE P n pg 0 P = areE P n pg 0 0 := by
  unfold areE
  by_cases h : valE P n ≠ 0
  · rw [if_pos h, if_pos h]
  · rw [if_neg h, if_neg h]
    obtain ⟨p, rfl, h1, _⟩ := valE_ok (show valE P n = 0 by omega)
    generalize n / (p : Int).toNat = q
    by_cases h7 : pg < 0 ∨ ((q : Nat) : Int) ≤ pg
    · rw [if_pos (by omega), if_pos (by omega)]
    · rw [if_neg (by omega), if_neg (by omega)]
set_option maxHeartbeats 2000000 in
theorem prg_walk (P P1 LB PE : Int) (L : List Int) (A B : Option Addr) (n c m d : Nat) (pg a b : Int) (w : World) (h : Calls Try.prog 30 #[.agg #[.int .i64 P, .slice A n c], .int .i64 pg, .int .i64 a, .int .i64 (m : Int), .int .i64 b, .func (.func 31) #[] #[.pointer (some ⟨w.heap.size + 1, 0, none⟩)]] (((w.alloc (.cells #[.int .i64 P, .slice A n c] 24)).alloc (.cells #[.slice B m d] 22)).alloc (.cells #[.int .i64 0, .slice none 0 0] 24)) (GivesF P1 L LB PE (((w.alloc (.cells #[.int .i64 P, .slice A n c] 24)).alloc (.cells #[.slice B m d] 22)).alloc (.cells #[.int .i64 0, .slice none 0 0] 24)))) :
    Calls Try.prog 21 #[.agg #[.int .i64 P, .slice A n c], .int .i64 pg, .int .i64 a, .slice B m d, .int .i64 b] w (GivesF P1 L LB PE w) := by
  have hb1 := (((Below.refl w.heap.size w).alloc (Nat.le_refl _) (.cells #[.int .i64 P, .slice A n c] 24)).alloc (by simp) (.cells #[.slice B m d] 22)).alloc (by simp; omega) (.cells #[.int .i64 0, .slice none 0 0] 24)
  have hr := Cs.new3 w (.cells #[.int .i64 P, .slice A n c] 24) (.cells #[.slice B m d] 22) 24 [.int .i64 0, .slice none 0 0]
  have hf := (((Cs.new w 24 [.int .i64 P, .slice A n c])).grow (.cells #[.slice B m d] 22)).grow (.cells #[.int .i64 0, .slice none 0 0] 24)
  have hx := (Cs.new2 w (.cells #[.int .i64 P, .slice A n c] 24) 22 [.slice B m d]).grow (.cells #[.int .i64 0, .slice none 0 0] 24)
  have hsz : (((w.alloc (.cells #[.int .i64 P, .slice A n c] 24)).alloc (.cells #[.slice B m d] 22)).alloc (.cells #[.int .i64 0, .slice none 0 0] 24)).heap.size = w.heap.size + 3 := by simp
  have c1 : Calls Try.prog 30 #[.agg #[.int .i64 P, .slice A n c], .int .i64 pg, .int .i64 a, .int .i64 (m : Int), .int .i64 b, .func (.func 31) #[] #[.pointer (some ⟨w.heap.size + 1, 0, none⟩)]] (((w.alloc (.cells #[.int .i64 P, .slice A n c] 24)).alloc (.cells #[.slice B m d] 22)).alloc (.cells #[.int .i64 0, .slice none 0 0] 24)) (GivesF P1 L LB PE (((w.alloc (.cells #[.int .i64 P, .slice A n c] 24)).alloc (.cells #[.slice B m d] 22)).alloc (.cells #[.int .i64 0, .slice none 0 0] 24))) := by
    exact h
  have hf0 := hf.cell 0
  have hf1 := hf.cell 1
  have hx0 := hx.cell 0
  have hmf : ∀ (fn : Fn) (first cap : Array Value) (w : World), (Instr.makeFunc fn first cap).run Try.prog w = .ok (.func fn first cap) w := fun _ _ _ _ => rfl
  simp only [List.getElem?_cons_succ, List.getElem?_cons_zero] at hf0 hf1 hx0
  have HR := Lib.hid hr
  have HB1 := Lib.hid hb1
  have HSZ := Lib.hid hsz
  have C1 := Lib.hid c1
  clear h
  clear hb1 hr hf hsz c1 hx
  go_enter Try.func21, Try.ntmps21
  go_wp2_with fail
  refine C1.out.mono ?_
  rintro e w1 ⟨A1, n1, c1, rfl, hy1, hc1, hm1, hb1⟩
  have hr1 := HR.out.below hb1 (by rw [HSZ.out]; exact Nat.lt_succ_self _)
  have HB2 := Lib.hid (HB1.out.trans (hb1.mono HB1.out.size))
  have r0 := hr1.cell 0
  have r1 := hr1.cell 1
  have g0 := hr1.free 0
  have g1 := hr1.free 1
  simp only [List.getElem?_cons_succ, List.getElem?_cons_zero] at r0 r1
  have HY := Lib.hid (hy1.setTwo (.int .i64 P1) (.slice A1 n1 c1) _ _ r0 r1 (fun z e => by cases e) (fun z e => by cases e))
  have HQ := Lib.hid (And.intro hc1 hm1)
  clear hb1 hr1 hy1 hc1 hm1 hf0 hf1 hx0
  go_wp2
  refine bodyPost_ret (v := .tuple #[.agg #[.int .i64 P1, .slice A1 n1 c1], .int .i64 LB, .int .i64 PE]) (by simp [results, Try.results21, go_sem, *]) rfl ?_
  exact ⟨A1, n1, c1, rfl, HY.out, HQ.out.1, HQ.out.2, (HB2.out.setCell (p := ⟨w.heap.size + 2, 0, none⟩) (by simp) _).setCell (p := ⟨w.heap.size + 2, 1, none⟩) (by simp) _⟩
set_option maxHeartbeats 2000000 in
theorem era_walk (P P1 LB PE : Int) (L : List Int) (A : Option Addr) (n c : Nat) (pg b : Int) (w : World) (h : Calls Try.prog 30 #[.agg #[.int .i64 P, .slice A n c], .int .i64 pg, .int .i64 0, .int .i64 P, .int .i64 b, .func (.func 35) #[] #[]] ((w.alloc (.cells #[.int .i64 P, .slice A n c] 24)).alloc (.cells #[.int .i64 0, .slice none 0 0] 24)) (GivesF P1 L LB PE ((w.alloc (.cells #[.int .i64 P, .slice A n c] 24)).alloc (.cells #[.int .i64 0, .slice none 0 0] 24)))) :
    Calls Try.prog 28 #[.agg #[.int .i64 P, .slice A n c], .int .i64 pg, .int .i64 b] w (GivesF P1 L LB PE w) := by
  have hb1 := ((Below.refl w.heap.size w).alloc (Nat.le_refl _) (.cells #[.int .i64 P, .slice A n c] 24)).alloc (by simp) (.cells #[.int .i64 0, .slice none 0 0] 24)
  have hr := Cs.new2 w (.cells #[.int .i64 P, .slice A n c] 24) 24 [.int .i64 0, .slice none 0 0]
  have hf := ((Cs.new w 24 [.int .i64 P, .slice A n c])).grow (.cells #[.int .i64 0, .slice none 0 0] 24)
  have hsz : ((w.alloc (.cells #[.int .i64 P, .slice A n c] 24)).alloc (.cells #[.int .i64 0, .slice none 0 0] 24)).heap.size = w.heap.size + 2 := by simp
  have c1 : Calls Try.prog 30 #[.agg #[.int .i64 P, .slice A n c], .int .i64 pg, .int .i64 0, .int .i64 P, .int .i64 b, .func (.func 35) #[] #[]] ((w.alloc (.cells #[.int .i64 P, .slice A n c] 24)).alloc (.cells #[.int .i64 0, .slice none 0 0] 24)) (GivesF P1 L LB PE ((w.alloc (.cells #[.int .i64 P, .slice A n c] 24)).alloc (.cells #[.int .i64 0, .slice none 0 0] 24))) := by
    exact h
  have hf0 := hf.cell 0
  have hf1 := hf.cell 1
  simp only [List.getElem?_cons_succ, List.getElem?_cons_zero] at hf0 hf1
  have HR := Lib.hid hr
  have HB1 := Lib.hid hb1
  have HSZ := Lib.hid hsz
  have C1 := Lib.hid c1
  clear h
  clear hb1 hr hf hsz c1
  go_enter Try.func28, Try.ntmps28
  go_wp2_with fail
  refine C1.out.mono ?_
  rintro e w1 ⟨A1, n1, c1, rfl, hy1, hc1, hm1, hb1⟩
  have hr1 := HR.out.below hb1 (by rw [HSZ.out]; exact Nat.lt_succ_self _)
  have HB2 := Lib.hid (HB1.out.trans (hb1.mono HB1.out.size))
  have r0 := hr1.cell 0
  have r1 := hr1.cell 1
  have g0 := hr1.free 0
  have g1 := hr1.free 1
  simp only [List.getElem?_cons_succ, List.getElem?_cons_zero] at r0 r1
  have HY := Lib.hid (hy1.setTwo (.int .i64 P1) (.slice A1 n1 c1) _ _ r0 r1 (fun z e => by cases e) (fun z e => by cases e))
  have HQ := Lib.hid (And.intro hc1 hm1)
  clear hb1 hr1 hy1 hc1 hm1 hf0 hf1
  go_wp2
  refine bodyPost_ret (v := .tuple #[.agg #[.int .i64 P1, .slice A1 n1 c1], .int .i64 LB, .int .i64 PE]) (by simp [results, Try.results28, go_sem, *]) rfl ?_
  exact ⟨A1, n1, c1, rfl, HY.out, HQ.out.1, HQ.out.2, (HB2.out.setCell (p := ⟨w.heap.size + 1, 0, none⟩) (by simp) _).setCell (p := ⟨w.heap.size + 1, 1, none⟩) (by simp) _⟩
theorem prgE_all (P : Int) (A B : Option Addr) (n c m d : Nat) (zs bs : List Int) (pg a b : Int) (w : World) (hA : Bytes w A n zs) (hB : Bytes w B m bs) (hc : n ≤ c) (hcm : c ≤ 9223372036854775807) (_ : m ≤ d) (_ : d ≤ 9223372036854775807) (hb : b ≤ 9223372036854775807) (ha : a ≤ 9223372036854775807 := by omega) :
    Calls Try.prog 21 #[.agg #[.int .i64 P, .slice A n c], .int .i64 pg, .int .i64 a, .slice B m d, .int .i64 b] w (GivesP (areE P n pg a (m : Int)) P (chgL zs (fromE P pg a) (prgG bs) (doneN b m)) (leftB b m) (powE6 b m) w) := by
  have hF := fun W => find_any P A n c pg a (m : Int) W (by omega) ha
  have hb1 := (((Below.refl w.heap.size w).alloc (Nat.le_refl _) (.cells #[.int .i64 P, .slice A n c] 24)).alloc (by simp) (.cells #[.slice B m d] 22)).alloc (by simp; omega) (.cells #[.int .i64 0, .slice none 0 0] 24)
  have hx := (Cs.new2 w (.cells #[.int .i64 P, .slice A n c] 24) 22 [.slice B m d]).grow (.cells #[.int .i64 0, .slice none 0 0] 24)
  have hA1 := hA.below hb1
  have hB1 := hB.below hb1
  by_cases hE : areE P n pg a (m : Int) = 0
  · unfold GivesP
    rw [hE, if_pos rfl] at hF
    rw [hE]
    show Calls _ _ _ _ (GivesF P (chgL zs (fromE P pg a) (prgG bs) (doneN b m)) (leftB b m) (powE6 b m) w)
    obtain ⟨p, q, x, k, rfl, rfl, rfl, hk, h1, h2, hn2, _, hbm, hs, hv⟩ := areE_ok hE
    obtain rfl : m = k := by omega
    have hn0 : 0 < n := (valE_ok hv).elim fun _ h => h.2.2.2.1
    obtain ⟨A, rfl, _⟩ := hA.at_ 0 hn0
    rw [fromE_nat] at hF ⊢
    refine prg_walk _ _ _ _ _ _ _ _ _ _ _ _ _ _ _ ?_
    by_cases hlt : q * p + x < c
    · refine chg_prg_ok _ _ A n c (q * p + x) m zs bs _ _ b _ hA1 hn0 hn2 hc (by omega) hlt hb hF ?_
      intro i y W hW hi hy
      refine prg_clo _ i m d y B bs W ?_ (hB1.below hW) hi hy
      have h := (hx.below hW hx.lt).cell 0
      exact h
    · obtain rfl : m = 0 := by omega
      obtain rfl : c = n := by omega
      obtain hsn : q * p + x = c := by omega
      have hd0 : doneN b 0 = 0 := by have := doneN_le b 0; omega
      rw [hd0]
      rw [hsn] at hF
      exact chg_prg_end _ _ A c zs _ _ b _ hA1 hn0 hn2 hb hF
  · unfold GivesP
    rw [if_neg hE] at hF
    rw [ifE_no hE, ifE_no hE, ifE_no hE, ifE_no hE]
    refine prg_walk _ _ _ _ _ _ _ _ _ _ _ _ _ _ _ ?_
    exact chg_prg_bad _ P A n c _ _ _ _ b _ hE hF
theorem eraE_all (P : Int) (A : Option Addr) (n c : Nat) (zs : List Int) (pg b : Int) (w : World) (hA : Bytes w A n zs) (hc : n ≤ c) (hcm : c ≤ 9223372036854775807) (hb : b ≤ 9223372036854775807) :
    Calls Try.prog 28 #[.agg #[.int .i64 P, .slice A n c], .int .i64 pg, .int .i64 b] w (GivesP (areE P n pg 0 0) P (chgL zs (fromE P pg 0) eraG (doneN b P.toNat)) (leftB b P.toNat) (powE6 b P.toNat) w) := by
  have hF := fun W => find_any P A n c pg 0 P W (by omega) (by omega)
  rw [are_page] at hF
  have hb1 := ((Below.refl w.heap.size w).alloc (Nat.le_refl _) (.cells #[.int .i64 P, .slice A n c] 24)).alloc (by simp) (.cells #[.int .i64 0, .slice none 0 0] 24)
  have hA1 := hA.below hb1
  by_cases hE : areE P n pg 0 0 = 0
  · unfold GivesP
    rw [hE, if_pos rfl] at hF
    have hE2 := hE
    rw [hE]
    show Calls _ _ _ _ (GivesF P (chgL zs (fromE P pg 0) eraG (doneN b P.toNat)) (leftB b P.toNat) (powE6 b P.toNat) w)
    obtain ⟨p, q, x, k, rfl, rfl, hx, hk, h1, h2, hn2, _, _, _, hv⟩ := areE_ok hE
    have hp := page_fits hE2
    have hn0 : 0 < n := (valE_ok hv).elim fun _ h => h.2.2.2.1
    obtain ⟨A, rfl, _⟩ := hA.at_ 0 hn0
    have e0 := fromE_nat p q 0
    rw [Nat.add_zero] at e0
    rw [show fromE (p : Int) (q : Int) 0 = q * p from e0] at hF ⊢
    rw [Int.toNat_natCast]
    refine era_walk _ _ _ _ _ _ _ _ _ _ _ ?_
    refine chg_era_ok _ A n c (q * p) p zs _ _ b _ hA1 hn0 hn2 hc (by omega) (by omega) hb hF ?_
    intro i y W _ _ _
    exact era_clo _ _ W
  · unfold GivesP
    rw [if_neg hE] at hF
    rw [ifE_no hE, ifE_no hE, ifE_no hE, ifE_no hE]
    refine era_walk _ _ _ _ _ _ _ _ _ _ _ ?_
    exact chg_era_bad P A n c _ _ _ _ b _ hE hF
end Go.Proofs.Ytgoajnljgbcmdaa
