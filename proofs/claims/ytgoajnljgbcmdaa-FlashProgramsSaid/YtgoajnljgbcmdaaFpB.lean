/- bytes.Clone; Read of the program. -/
import Derived.Test.YtgoajnljgbcmdaaFpA
import Derived.Lib.SliceRun
namespace Go.Proofs.Ytgoajnljgbcmdaa
open Go.RowKit
set_option maxRecDepth 100000

set_option maxHeartbeats 1000000 in
theorem clone_any (A : Addr) (n c : Nat) (zs : List Int) (w : World) (hA : Bytes w (some A) n zs) (hn : n ≤ 1000000) :
    Calls Try.prog 25 #[.slice (some A) n c] w fun e w' => ∃ v, e = .returned v ∧ Row w' w.heap.size v n zs ∧ Below w.heap.size w w' := by
  have q22 : ∀ (w : World) (a : Option Addr) (n c n' c' : Nat), (binOp .eql 22 (.slice a n c) (.slice none n' c')).run Try.prog w = .ok (.bool a.isNone) w := fun w a n c n' c' => Lib.run_eql_slice_nil w _ _ a n c n' c' Try.underlying22
  have hb0 := (Below.refl w.heap.size w).alloc (Nat.le_refl _) (.cells #[] 5)
  have HR : Hid (Row (w.alloc (.cells #[] 5)) w.heap.size (.slice (some ⟨w.heap.size, 0, none⟩) 0 0) 0 []) := Lib.hid (Row.of_new (heap_alloc_new w _) (fun j hj => absurd hj (by omega)) rfl (Nat.le_refl _) (by unfold maxLen; omega) rfl (Nat.le_refl _))
  have HA := Lib.hid (hA.below hb0)
  have HB := Lib.hid hb0
  have HN : Hid (0 + n ≤ 100000000000000) := Lib.hid (by omega)
  have HZ : Hid (w.heap.size ≤ (w.alloc (.cells #[] 5)).heap.size) := Lib.hid (by simp)
  clear hA hb0 hn
  go_enter Try.func25, Try.ntmps25
  go_wp2_with (at_builtin; refine app_row rfl _ _ rfl w.heap.size (.slice (some ⟨w.heap.size, 0, none⟩) 0 0) 0 [] (some A) n c zs HR.out rfl HA.out rfl HN.out HZ.out ?_)
  intro v1 w1 hr1 hb1
  have HR1 := Lib.hid hr1
  have HB1 := Lib.hid (HB.out.trans hb1)
  clear hr1 hb1
  go_wp2
  go_ret
  exact ⟨v1, rfl, HR1.out, HB1.out⟩
set_option maxHeartbeats 2000000 in
theorem readE_ok (p q a m n c : Nat) (A : Addr) (zs : List Int) (w : World) (hA : Bytes w (some A) n zs) (hE : areE (p : Int) n (q : Int) (a : Int) (m : Int) = 0) (h1 : 512 ≤ p) (h2 : p ≤ 8192) (hn : n ≤ 65536) (hc : n ≤ c) (hcm : c ≤ 9223372036854775807) (ha : a + m ≤ p) (hs : q * p + a + m ≤ n) (hlt : q * p + a < c) :
    Calls Try.prog 17 #[.agg #[.int .i64 (p : Int), .slice (some A) n c], .int .i64 (q : Int), .int .i64 (a : Int), .int .i64 (m : Int)] w (GivesR (rdL zs (q * p + a) m) 0 w) := by
  obtain ⟨s, hsx⟩ : ∃ s, q * p + a = s := ⟨_, rfl⟩
  have c1 := fun w => find_any (p : Int) (some A) n c (q : Int) (a : Int) (m : Int) w (by omega) (by omega)
  rw [hE, if_pos rfl, fromE_nat, hsx] at c1
  rw [hsx] at hs hlt
  rw [hsx]
  obtain ⟨e, he⟩ : ∃ e, s + m = e := ⟨_, rfl⟩
  have heI : (s : Int) + (m : Int) = (e : Int) := by omega
  have hen : e ≤ n := by omega
  have We := Lib.hid (wrap_nat e (by omega))
  have hec : (e : Int) ≤ (c : Int) := by omega
  have hse : (s : Int) ≤ (e : Int) := by omega
  have hsc : ¬ c = s := by omega
  have hsc2 : ¬ c - s = 0 := by omega
  have hEs : e - s = m := by omega
  have hX0 := hA.drop (cap := c) s (by omega) hc
  rw [if_neg (by omega)] at hX0
  have hX1 : Bytes w (some (A.add s)) (e - s) (rdL zs s m) := by
    have h := hX0.take (e - s) (by omega)
    rw [hEs] at h ⊢
    exact h
  have HX := Lib.hid hX1
  have HQ : Hid (e - s ≤ 1000000) := Lib.hid (by omega)
  have HRR : Hid (∀ z ∈ rdL zs s m, 0 ≤ z ∧ z ≤ 255) := Lib.hid hX1.rng
  clear hX0 hX1 hEs
  have C1 := Lib.hid c1
  have hb0 := (Below.refl w.heap.size w).alloc (Nat.le_refl _) (.cells #[.int .i64 (p : Int), .slice (some A) n c] 24)
  have hf := Cs.new w 24 [.int .i64 (p : Int), .slice (some A) n c]
  have HF := Lib.hid hf
  have HB1 := Lib.hid hb0
  clear c1 hA hE hf hb0 hsx he hs hlt hen ha hn hc hcm h1 h2
  have hew := We.out
  go_enter Try.func17, Try.ntmps17
  go_wp2_with fail
  refine (C1.out _).mono ?_
  rintro e' w1 ⟨rfl, hb1⟩
  have hf1 := HF.out.below hb1 (by simp)
  have HB2 := Lib.hid (HB1.out.trans (hb1.mono HB1.out.size))
  have k0 := hf1.cell 0
  have k1 := hf1.cell 1
  simp only [List.getElem?_cons_succ, List.getElem?_cons_zero] at k0 k1
  clear hb1 hf1
  have HX1 := Lib.hid (HX.out.below HB2.out)
  go_wp2_with fail
  refine (clone_any _ _ _ (rdL zs s m) _ HX1.out HQ.out).mono ?_
  rintro e' w2 ⟨v2, rfl, hr2, hb2⟩
  obtain ⟨A2, c2, rfl, hk2, hm2, hy2⟩ := hr2.bytes HRR.out
  have HY2 := Lib.hid hy2
  have HB3 := Lib.hid (HB2.out.trans (hb2.mono HB2.out.size))
  clear hr2 hy2 hb2
  go_wp2
  go_ret2
  exact ⟨A2, _, c2, rfl, HY2.out, hk2, hm2, HB3.out⟩
set_option maxHeartbeats 2000000 in
theorem readE_end (p q a s : Nat) (A : Addr) (zs : List Int) (w : World) (hA : Bytes w (some A) s zs) (hE : areE (p : Int) s (q : Int) (a : Int) 0 = 0) (hs0 : s ≤ 65536) (hs : q * p + a = s) :
    Calls Try.prog 17 #[.agg #[.int .i64 (p : Int), .slice (some A) s s], .int .i64 (q : Int), .int .i64 (a : Int), .int .i64 0] w (GivesR [] 0 w) := by
  have hal : a ≤ 65536 := by omega
  have c1 := fun w => find_any (p : Int) (some A) s s (q : Int) (a : Int) 0 w (by omega) (by omega)
  rw [hE, if_pos rfl, fromE_nat, hs] at c1
  have C1 := Lib.hid c1
  have Ws := Lib.hid (wrap_nat s (by omega))
  have hX : Bytes w (some A) 0 [] := hA.take 0 (Nat.zero_le _)
  have HX := Lib.hid hX
  have hb0 := (Below.refl w.heap.size w).alloc (Nat.le_refl _) (.cells #[.int .i64 (p : Int), .slice (some A) s s] 24)
  have hf := Cs.new w 24 [.int .i64 (p : Int), .slice (some A) s s]
  have HF := Lib.hid hf
  have HB1 := Lib.hid hb0
  clear c1 hA hE hf hb0 hX hs hs0 hal
  have hsw := Ws.out
  go_enter Try.func17, Try.ntmps17
  go_wp2_with fail
  refine (C1.out _).mono ?_
  rintro e' w1 ⟨rfl, hb1⟩
  have hf1 := HF.out.below hb1 (by simp)
  have HB2 := Lib.hid (HB1.out.trans (hb1.mono HB1.out.size))
  have k0 := hf1.cell 0
  have k1 := hf1.cell 1
  simp only [List.getElem?_cons_succ, List.getElem?_cons_zero] at k0 k1
  clear hb1 hf1
  have HX1 := Lib.hid (HX.out.below HB2.out)
  go_wp2_with fail
  refine (clone_any _ _ _ [] _ HX1.out (by decide)).mono ?_
  rintro e' w2 ⟨v2, rfl, hr2, hb2⟩
  obtain ⟨A2, c2, rfl, hk2, hm2, hy2⟩ := hr2.bytes (fun z hz => by cases hz)
  have HY2 := Lib.hid hy2
  have HB3 := Lib.hid (HB2.out.trans (hb2.mono HB2.out.size))
  clear hr2 hy2 hb2
  go_wp2
  go_ret2
  exact ⟨A2, _, c2, rfl, HY2.out, hk2, hm2, HB3.out⟩
set_option maxHeartbeats 2000000 in
theorem readE_bad (P : Int) (A : Option Addr) (n c : Nat) (pg a k : Int) (w : World) (hn : n ≤ 9223372036854775807) (ha : a ≤ 9223372036854775807) (hE : ¬ areE P n pg a k = 0) :
    Calls Try.prog 17 #[.agg #[.int .i64 P, .slice A n c], .int .i64 pg, .int .i64 a, .int .i64 k] w (GivesR [] (areE P n pg a k) w) := by
  have HB0 := Lib.hid ((Below.refl w.heap.size w).alloc (Nat.le_refl _) (.cells #[.int .i64 P, .slice A n c] 24))
  have c1 := fun w => find_any P A n c pg a k w hn ha
  rw [if_neg hE] at c1
  generalize areE P n pg a k = E at *
  have C1 := Lib.hid c1
  clear c1
  go_enter Try.func17, Try.ntmps17
  go_wp2_with fail
  refine (C1.out _).mono ?_
  rintro e' w1 ⟨rfl, hb1⟩
  have HB2 := Lib.hid (HB0.out.trans (hb1.mono HB0.out.size))
  clear hb1
  go_wp2
  go_ret2
  exact ⟨none, 0, 0, rfl, ⟨rfl, fun z hz => by (cases hz), fun i hi => absurd hi (by omega)⟩, Nat.le_refl _, by omega, HB2.out⟩
theorem readE_all (P : Int) (A : Option Addr) (n c : Nat) (zs : List Int) (pg a k : Int) (w : World) (hA : Bytes w A n zs) (hc : n ≤ c) (hcm : c ≤ 9223372036854775807) (ha : a ≤ 9223372036854775807 := by omega) :
    Calls Try.prog 17 #[.agg #[.int .i64 P, .slice A n c], .int .i64 pg, .int .i64 a, .int .i64 k] w (GivesR (ifE (areE P n pg a k) (rdL zs (fromE P pg a) k.toNat) []) (areE P n pg a k) w) := by
  by_cases hE : areE P n pg a k = 0
  · rw [hE]
    show Calls _ _ _ _ (GivesR (rdL zs (fromE P pg a) k.toNat) 0 w)
    obtain ⟨p, q, b, m, rfl, rfl, rfl, rfl, h1, h2, hn, _, hbm, hs, hv⟩ := areE_ok hE
    have hn0 : 0 < n := (valE_ok hv).elim fun _ h => h.2.2.2.1
    obtain ⟨A, rfl, _⟩ := hA.at_ 0 hn0
    rw [fromE_nat, Int.toNat_natCast]
    by_cases hlt : q * p + b < c
    · exact readE_ok p q b m n c A zs w hA hE h1 h2 hn hc hcm hbm hs hlt
    · obtain rfl : m = 0 := by omega
      obtain rfl : c = n := by omega
      have hl : rdL zs (q * p + b) 0 = [] := by unfold rdL; rw [List.take_zero]
      rw [hl]
      exact readE_end p q b c A zs w hA hE hn (by omega)
  · rw [ifE_no hE]
    exact readE_bad P A n c pg a k w (by omega) ha hE
end Go.Proofs.Ytgoajnljgbcmdaa
