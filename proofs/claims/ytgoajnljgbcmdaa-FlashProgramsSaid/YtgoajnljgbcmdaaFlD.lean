/- Program, Erase and Read of the reference. -/
import Derived.Test.YtgoajnljgbcmdaaFlB
import Derived.Test.YtgoajnljgbcmdaaFlC
namespace Go.Proofs.Ytgoajnljgbcmdaa
open Go.RowKit
set_option maxRecDepth 100000

/-- what Program and Erase answer, at the error E of the range -/
def ifE {α : Type} (E : Int) (x y : α) : α := if E = 0 then x else y
theorem ifE_ok {α : Type} (x y : α) : ifE 0 x y = x := rfl
theorem ifE_no {α : Type} {E : Int} (h : ¬ E = 0) (x y : α) : ifE E x y = y := if_neg h
def GivesP (E P : Int) (l : List Int) (B F : Int) (w : World) (e : Ending) (w' : World) : Prop := GivesF (ifE E P 0) (ifE E l []) (ifE E B 0) (ifE E F E) w e w'
def GivesR (l : List Int) (E : Int) (w : World) (e : Ending) (w' : World) : Prop := ∃ A n c, e = .returned (.tuple #[.slice A n c, .int .i64 E]) ∧ Bytes w' A n l ∧ n ≤ c ∧ c ≤ 9223372036854775807 ∧ Below w.heap.size w w'
def rdL (zs : List Int) (s m : Nat) : List Int := (zs.drop s).take m
set_option maxHeartbeats 2000000 in
theorem prgR_bad (P : Int) (A B : Option Addr) (n c m d : Nat) (pg a b : Int) (w : World) (hn : n ≤ 9223372036854775807) (hE : ¬ areE P n pg a (m : Int) = 0) :
    Calls Try.prog 27 #[.agg #[.int .i64 P, .slice A n c], .int .i64 pg, .int .i64 a, .slice B m d, .int .i64 b] w (GivesF 0 [] 0 (areE P n pg a (m : Int)) w) := by
  have hb0 := (Below.refl w.heap.size w).alloc (Nat.le_refl _) (.cells #[.int .i64 P, .slice A n c] 24)
  have hb1 := hb0.alloc (by simp) (.cells #[.int .i64 0, .slice none 0 0] 24)
  have hf := (Cs.new w 24 [.int .i64 P, .slice A n c]).grow (.cells #[.int .i64 0, .slice none 0 0] 24)
  have hr := Cs.new2 w (.cells #[.int .i64 P, .slice A n c] 24) 24 [.int .i64 0, .slice none 0 0]
  have HF := Lib.hid hf
  have HR := Lib.hid hr
  have HB1 := Lib.hid hb1
  have hsz : ((w.alloc (.cells #[.int .i64 P, .slice A n c] 24)).alloc (.cells #[.int .i64 0, .slice none 0 0] 24)).heap.size = w.heap.size + 2 := by simp
  have HSZ := Lib.hid hsz
  clear hb0 hb1 hf hr hsz
  have c1 := fun w => areR_any P A n c pg a (m : Int) w hn
  generalize areE P n pg a (m : Int) = E at *
  have C1 := Lib.hid c1
  clear c1
  go_enter Try.func27, Try.ntmps27
  go_wp2_with fail
  refine (C1.out _).mono ?_
  rintro e w1 ⟨rfl, hb⟩
  have hr1 := HR.out.below hb (by have := HSZ.out; omega)
  have HB2 := Lib.hid (HB1.out.trans (hb.mono HB1.out.size))
  have k0 := hr1.cell 0
  have k1 := hr1.cell 1
  have g0 := hr1.free 0
  have g1 := hr1.free 1
  simp only [List.getElem?_cons_succ, List.getElem?_cons_zero] at k0 k1
  clear hb hr1
  go_wp2
  refine bodyPost_ret (v := .tuple #[.agg #[.int .i64 0, .slice none 0 0], .int .i64 0, .int .i64 E]) (by simp [results, Try.results27, go_sem, *]) rfl ?_
  exact ⟨none, 0, 0, rfl, ⟨rfl, fun z hz => by (cases hz), fun i hi => absurd hi (by omega)⟩, Nat.le_refl _, by omega, (HB2.out.setCell (p := ⟨w.heap.size + 1, 0, none⟩) (by simp) _).setCell (p := ⟨w.heap.size + 1, 1, none⟩) (by simp) _⟩
set_option maxHeartbeats 2000000 in
theorem eraR_bad (P : Int) (A : Option Addr) (n c : Nat) (pg b : Int) (w : World) (hn : n ≤ 9223372036854775807) (hE : ¬ areE P n pg 0 0 = 0) :
    Calls Try.prog 29 #[.agg #[.int .i64 P, .slice A n c], .int .i64 pg, .int .i64 b] w (GivesF 0 [] 0 (areE P n pg 0 0) w) := by
  have hb0 := (Below.refl w.heap.size w).alloc (Nat.le_refl _) (.cells #[.int .i64 P, .slice A n c] 24)
  have hb1 := hb0.alloc (by simp) (.cells #[.int .i64 0, .slice none 0 0] 24)
  have hf := (Cs.new w 24 [.int .i64 P, .slice A n c]).grow (.cells #[.int .i64 0, .slice none 0 0] 24)
  have hr := Cs.new2 w (.cells #[.int .i64 P, .slice A n c] 24) 24 [.int .i64 0, .slice none 0 0]
  have HF := Lib.hid hf
  have HR := Lib.hid hr
  have HB1 := Lib.hid hb1
  have hsz : ((w.alloc (.cells #[.int .i64 P, .slice A n c] 24)).alloc (.cells #[.int .i64 0, .slice none 0 0] 24)).heap.size = w.heap.size + 2 := by simp
  have HSZ := Lib.hid hsz
  clear hb0 hb1 hf hr hsz
  have c1 := fun w => areR_any P A n c pg 0 0 w hn
  generalize areE P n pg 0 0 = E at *
  have C1 := Lib.hid c1
  clear c1
  go_enter Try.func29, Try.ntmps29
  go_wp2_with fail
  refine (C1.out _).mono ?_
  rintro e w1 ⟨rfl, hb⟩
  have hr1 := HR.out.below hb (by have := HSZ.out; omega)
  have HB2 := Lib.hid (HB1.out.trans (hb.mono HB1.out.size))
  have k0 := hr1.cell 0
  have k1 := hr1.cell 1
  have g0 := hr1.free 0
  have g1 := hr1.free 1
  simp only [List.getElem?_cons_succ, List.getElem?_cons_zero] at k0 k1
  clear hb hr1
  go_wp2
  refine bodyPost_ret (v := .tuple #[.agg #[.int .i64 0, .slice none 0 0], .int .i64 0, .int .i64 E]) (by simp [results, Try.results29, go_sem, *]) rfl ?_
  exact ⟨none, 0, 0, rfl, ⟨rfl, fun z hz => by (cases hz), fun i hi => absurd hi (by omega)⟩, Nat.le_refl _, by omega, (HB2.out.setCell (p := ⟨w.heap.size + 1, 0, none⟩) (by simp) _).setCell (p := ⟨w.heap.size + 1, 1, none⟩) (by simp) _⟩
set_option maxHeartbeats 2000000 in
theorem eraR_ok (p q n c : Nat) (A : Option Addr) (zs : List Int) (b : Int) (w : World) (hA : Bytes w A n zs) (hE : areE (p : Int) n (q : Int) 0 0 = 0) (h1 : 512 ≤ p) (h2 : p ≤ 8192) (hn : n ≤ 65536) (hs : q * p + p ≤ n) (hb : b ≤ 9223372036854775807) :
    Calls Try.prog 29 #[.agg #[.int .i64 (p : Int), .slice A n c], .int .i64 (q : Int), .int .i64 b] w (GivesF (p : Int) (chgL zs (q * p) eraG (doneN b p)) (leftB b p) (powE6 b p) w) := by
  obtain ⟨t, ht⟩ : ∃ t, q * p = t := ⟨_, rfl⟩
  have htI : (q : Int) * (p : Int) = (t : Int) := by rw [← ht]; exact (Int.natCast_mul _ _).symm
  have htl : t ≤ 65536 := by omega
  rw [ht] at hs
  rw [ht]
  have c2 := fun w' (h : Bytes w' A n zs) => chgR_era (p : Int) A none n c t p 0 zs b w' h (by omega) hn (by omega) hb
  generalize chgL zs t eraG (doneN b p) = L at *
  generalize leftB b p = LB at *
  generalize powE6 b p = PE at *
  have HA := Lib.hid hA
  have c1 := fun w => areR_any (p : Int) A n c (q : Int) 0 0 w (by omega)
  rw [hE] at c1
  have C1 := Lib.hid c1
  have C2 := Lib.hid c2
  have hb0 := (Below.refl w.heap.size w).alloc (Nat.le_refl _) (.cells #[.int .i64 (p : Int), .slice A n c] 24)
  have hb1 := hb0.alloc (by simp) (.cells #[.int .i64 0, .slice none 0 0] 24)
  have hf := (Cs.new w 24 [.int .i64 (p : Int), .slice A n c]).grow (.cells #[.int .i64 0, .slice none 0 0] 24)
  have hr := Cs.new2 w (.cells #[.int .i64 (p : Int), .slice A n c] 24) 24 [.int .i64 0, .slice none 0 0]
  have HF := Lib.hid hf
  have HR := Lib.hid hr
  have HB1 := Lib.hid hb1
  have hsz : ((w.alloc (.cells #[.int .i64 (p : Int), .slice A n c] 24)).alloc (.cells #[.int .i64 0, .slice none 0 0] 24)).heap.size = w.heap.size + 2 := by simp
  have HSZ := Lib.hid hsz
  clear hb0 hb1 hf hr hsz
  clear c1 c2 ht hA hE
  go_enter Try.func29, Try.ntmps29
  go_wp2_with fail
  refine (C1.out _).mono ?_
  rintro e w1 ⟨rfl, hb1⟩
  have hr1 := HR.out.below hb1 (by have := HSZ.out; omega)
  have hf1 := HF.out.below hb1 (by have := HSZ.out; omega)
  have HB2 := Lib.hid (HB1.out.trans (hb1.mono HB1.out.size))
  have k0 := hf1.cell 0
  have k1 := hf1.cell 1
  simp only [List.getElem?_cons_succ, List.getElem?_cons_zero] at k0 k1
  have HR1 := Lib.hid hr1
  have hlt : w.heap.size + 1 < w1.heap.size := hr1.lt
  clear hb1 hr1 hf1
  go_wp2_with fail
  refine (C2.out _ (HA.out.below HB2.out)).mono ?_
  rintro e w2 ⟨A2, n2, c2, rfl, hy2, hc2, hm2, hb2⟩
  have hr2 := HR1.out.below hb2 hlt
  have HB3 := Lib.hid (HB2.out.trans (hb2.mono HB2.out.size))
  have HS2 := Lib.hid hb2.size
  have r0 := hr2.cell 0
  have r1 := hr2.cell 1
  have g0 := hr2.free 0
  have g1 := hr2.free 1
  simp only [List.getElem?_cons_succ, List.getElem?_cons_zero] at r0 r1
  have HFR := Lib.hid (hy2.setTwo (.int .i64 (p : Int)) (.slice A2 n2 c2) _ _ r0 r1 (fun z e => by cases e) (fun z e => by cases e))
  clear hb2 hr2 hy2 k0 k1
  go_wp2
  refine bodyPost_ret (v := .tuple #[.agg #[.int .i64 (p : Int), .slice A2 n2 c2], .int .i64 LB, .int .i64 PE]) (by simp [results, Try.results29, go_sem, *]) rfl ?_
  exact ⟨A2, n2, c2, rfl, HFR.out, hc2, hm2, (HB3.out.setCell (p := ⟨w.heap.size + 1, 0, none⟩) (by simp) _).setCell (p := ⟨w.heap.size + 1, 1, none⟩) (by simp) _⟩
set_option maxHeartbeats 2000000 in
theorem prgR_ok (p q a m n c d : Nat) (A B : Option Addr) (zs bs : List Int) (b : Int) (w : World) (hA : Bytes w A n zs) (hB : Bytes w B m bs) (hE : areE (p : Int) n (q : Int) (a : Int) (m : Int) = 0) (h1 : 512 ≤ p) (h2 : p ≤ 8192) (hn0 : 0 < n) (hn : n ≤ 65536) (ha : a + m ≤ p) (hs : q * p + a + m ≤ n) (hb : b ≤ 9223372036854775807) :
    Calls Try.prog 27 #[.agg #[.int .i64 (p : Int), .slice A n c], .int .i64 (q : Int), .int .i64 (a : Int), .slice B m d, .int .i64 b] w (GivesF (p : Int) (chgL zs (q * p + a) (prgG bs) (doneN b m)) (leftB b m) (powE6 b m) w) := by
  obtain ⟨t, ht⟩ : ∃ t, q * p = t := ⟨_, rfl⟩
  have htI : (q : Int) * (p : Int) = (t : Int) := by rw [← ht]; exact (Int.natCast_mul _ _).symm
  have htl : t ≤ 65536 := by omega
  rw [ht] at hs
  rw [ht]
  obtain ⟨s, hsx⟩ : ∃ s, t + a = s := ⟨_, rfl⟩
  have hsI : (t : Int) + (a : Int) = (s : Int) := by omega
  rw [hsx]
  have c2 : ∀ w', Bytes w' A n zs → Bytes w' B m bs → Calls Try.prog 34 #[.agg #[.int .i64 (p : Int), .slice A n c], .int .i64 (s : Int), .int .i64 (m : Int), .slice B m d, .int .i64 b] w' (GivesF (p : Int) (chgL zs s (prgG bs) (doneN b m)) (leftB b m) (powE6 b m) w') := by
    intro w' h h'
    by_cases hm : m = 0
    · subst hm
      have h0 := chgR_era (p : Int) A B n c s 0 d zs b w' h (by omega) hn (by omega) hb
      have hd := doneN_le b 0
      have hd0 : doneN b 0 = 0 := by omega
      rw [hd0] at h0 ⊢
      exact h0
    · exact chgR_prg (p : Int) A B n c s m d zs bs b w' h (by omega) hn (by omega) hb h' (by omega)
  have hsw : wrap64 (s : Int) = (s : Int) := by unfold wrap64; omega
  have HBS := Lib.hid hB
  generalize chgL zs s (prgG bs) (doneN b m) = L at *
  generalize leftB b m = LB at *
  generalize powE6 b m = PE at *
  clear hB hsx
  have HA := Lib.hid hA
  have c1 := fun w => areR_any (p : Int) A n c (q : Int) (a : Int) (m : Int) w (by omega)
  rw [hE] at c1
  have C1 := Lib.hid c1
  have C2 := Lib.hid c2
  have hb0 := (Below.refl w.heap.size w).alloc (Nat.le_refl _) (.cells #[.int .i64 (p : Int), .slice A n c] 24)
  have hb1 := hb0.alloc (by simp) (.cells #[.int .i64 0, .slice none 0 0] 24)
  have hf := (Cs.new w 24 [.int .i64 (p : Int), .slice A n c]).grow (.cells #[.int .i64 0, .slice none 0 0] 24)
  have hr := Cs.new2 w (.cells #[.int .i64 (p : Int), .slice A n c] 24) 24 [.int .i64 0, .slice none 0 0]
  have HF := Lib.hid hf
  have HR := Lib.hid hr
  have HB1 := Lib.hid hb1
  have hsz : ((w.alloc (.cells #[.int .i64 (p : Int), .slice A n c] 24)).alloc (.cells #[.int .i64 0, .slice none 0 0] 24)).heap.size = w.heap.size + 2 := by simp
  have HSZ := Lib.hid hsz
  clear hb0 hb1 hf hr hsz
  clear c1 c2 ht hA hE
  go_enter Try.func27, Try.ntmps27
  go_wp2_with fail
  refine (C1.out _).mono ?_
  rintro e w1 ⟨rfl, hb1⟩
  have hr1 := HR.out.below hb1 (by have := HSZ.out; omega)
  have hf1 := HF.out.below hb1 (by have := HSZ.out; omega)
  have HB2 := Lib.hid (HB1.out.trans (hb1.mono HB1.out.size))
  have k0 := hf1.cell 0
  have k1 := hf1.cell 1
  simp only [List.getElem?_cons_succ, List.getElem?_cons_zero] at k0 k1
  have HR1 := Lib.hid hr1
  have hlt : w.heap.size + 1 < w1.heap.size := hr1.lt
  clear hb1 hr1 hf1
  go_wp2_with fail
  refine (C2.out _ (HA.out.below HB2.out) (HBS.out.below HB2.out)).mono ?_
  rintro e w2 ⟨A2, n2, c2, rfl, hy2, hc2, hm2, hb2⟩
  have hr2 := HR1.out.below hb2 hlt
  have HB3 := Lib.hid (HB2.out.trans (hb2.mono HB2.out.size))
  have HS2 := Lib.hid hb2.size
  have r0 := hr2.cell 0
  have r1 := hr2.cell 1
  have g0 := hr2.free 0
  have g1 := hr2.free 1
  simp only [List.getElem?_cons_succ, List.getElem?_cons_zero] at r0 r1
  have HFR := Lib.hid (hy2.setTwo (.int .i64 (p : Int)) (.slice A2 n2 c2) _ _ r0 r1 (fun z e => by cases e) (fun z e => by cases e))
  clear hb2 hr2 hy2 k0 k1
  go_wp2
  refine bodyPost_ret (v := .tuple #[.agg #[.int .i64 (p : Int), .slice A2 n2 c2], .int .i64 LB, .int .i64 PE]) (by simp [results, Try.results27, go_sem, *]) rfl ?_
  exact ⟨A2, n2, c2, rfl, HFR.out, hc2, hm2, (HB3.out.setCell (p := ⟨w.heap.size + 1, 0, none⟩) (by simp) _).setCell (p := ⟨w.heap.size + 1, 1, none⟩) (by simp) _⟩
end Go.Proofs.Ytgoajnljgbcmdaa
