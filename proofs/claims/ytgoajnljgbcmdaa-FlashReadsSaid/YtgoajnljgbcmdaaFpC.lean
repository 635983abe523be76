/- change, Program and Erase of the program. -/
import Derived.Test.YtgoajnljgbcmdaaFpB
namespace Go.Proofs.Ytgoajnljgbcmdaa
open Go.RowKit
set_option maxRecDepth 100000

/-- what stands while bytes are changed -/
structure Chp (w W : World) (P : Int) (A : Option Addr) (n c g cap : Nat) (l : List Int) : Prop where
  f : Cs W w.heap.size 24 [.int .i64 P, .slice A n c]
  r : Cs W (w.heap.size + 1) 24 [.int .i64 0, .slice none 0 0]
  row : Row W (w.heap.size + 2) (.slice (some ⟨g, 0, none⟩) n cap) n l
  far : w.heap.size + 2 ≤ g
  below : Below w.heap.size w W
theorem Chp.put {w W : World} {P : Int} {A : Option Addr} {n c g cap : Nat} {l : List Int} (h : Chp w W P A n c g cap l) (j : Nat) (hj : j < n) (z : Int) : Chp w (W.setCell ⟨g, j, none⟩ (.int .u8 z)) P A n c g cap (l.set j z) := by
  have hg := h.far
  exact ⟨h.f.far_set j _ (by omega), h.r.far_set j _ (by omega), h.row.put j hj z, hg, h.below.setCell (p := ⟨g, j, none⟩) (by simp only; omega) _⟩
theorem chgL_next (zs : List Int) (s : Nat) (g : Nat → Int → Int) (i : Nat) (h : s + i < zs.length) : (chgL zs s g i).set (s + i) (g i (zs.getD (s + i) 0)) = chgL zs s g (i + 1) := by
  have h1 := chgL_at zs s g (s + i) i (by omega)
  rw [if_neg (by omega)] at h1
  rw [chgL, h1]
set_option maxHeartbeats 4000000 in
theorem chg_era_ok (P : Int) (A : Addr) (n c s k : Nat) (zs : List Int) (pg a b : Int) (w : World) (hA : Bytes w (some A) n zs) (hn0 : 0 < n) (hn : n ≤ 65536) (hc : n ≤ c) (hs : s + k ≤ n) (hsc : s < c) (hb : b ≤ 9223372036854775807)
    (hF : ∀ W, Calls Try.prog 24 #[.agg #[.int .i64 P, .slice (some A) n c], .int .i64 pg, .int .i64 a, .int .i64 (k : Int)] W fun e w' => e = .returned (.tuple #[.int .i64 (s : Int), .int .i64 0]) ∧ Below W.heap.size W w')
    (hV : ∀ (i : Nat) (x : Int) W, Below w.heap.size w W → i < k → 0 ≤ x ∧ x ≤ 255 → Calls Try.prog 35 #[.int .i64 (i : Int), .int .u8 x] W fun e w' => e = .returned (.int .u8 (eraG i x)) ∧ W = w') :
    Calls Try.prog 30 #[.agg #[.int .i64 P, .slice (some A) n c], .int .i64 pg, .int .i64 a, .int .i64 (k : Int), .int .i64 b, .func (.func 35) #[] #[]] w (GivesF P (chgL zs s (eraG) (doneN b k)) (leftB b k) (powE6 b k) w) := by
  have c2 := fun W => spend_any b k W (by omega) hb
  have hdk := doneN_le b k
  generalize doneN b k = D at *
  generalize leftB b k = LB at *
  generalize powE6 b k = PE at *
  obtain ⟨e, he⟩ : ∃ e, s + D = e := ⟨_, rfl⟩
  have heI : (s : Int) + (D : Int) = (e : Int) := by omega
  have hen : e ≤ n := by omega
  have We := Lib.hid (wrap_nat e (by omega))
  have hec : (e : Int) ≤ (c : Int) := by omega
  have hse : (s : Int) ≤ (e : Int) := by omega
  have hcs : ¬ c = s := by omega
  have hcs2 : ¬ c - s = 0 := by omega
  have hed : ((e - s : Nat) : Int) = (D : Int) := by omega
  have HZL := Lib.hid hA.len
  have HRG := Lib.hid (fun d => chgL_rng (s := s) hA.rng (eraG_rng) d)
  have hb0 := (Below.refl w.heap.size w).alloc (Nat.le_refl _) (.cells #[.int .i64 P, .slice (some A) n c] 24)
  have hb1 := hb0.alloc (by simp) (.cells #[.int .i64 0, .slice none 0 0] 24)
  have hf := (Cs.new w 24 [.int .i64 P, .slice (some A) n c]).grow (.cells #[.int .i64 0, .slice none 0 0] 24)
  have hr := Cs.new2 w (.cells #[.int .i64 P, .slice (some A) n c] 24) 24 [.int .i64 0, .slice none 0 0]
  have hsz : ((w.alloc (.cells #[.int .i64 P, .slice (some A) n c] 24)).alloc (.cells #[.int .i64 0, .slice none 0 0] 24)).heap.size = w.heap.size + 2 := by simp
  have HF := Lib.hid hf
  have HR := Lib.hid hr
  have HB1 := Lib.hid hb1
  have HSZ := Lib.hid hsz
  have HA := Lib.hid hA
  have CF := Lib.hid hF
  have CV := Lib.hid hV
  have C2 := Lib.hid c2
  have HM := Lib.hid (And.intro hs (And.intro hdk (And.intro he (And.intro hen (And.intro hn0 hn)))))
  clear hb0 hb1 hf hr hsz hA hF hV c2 hn hs hb hc hsc hdk he hen hn0
  have hew := We.out
  go_enter Try.func30, Try.ntmps30
  go_wp2_with fail
  refine (CF.out _).mono ?_
  rintro e' w1 ⟨rfl, hb1⟩
  have hlt1 := hb1.size
  rw [HSZ.out] at hlt1
  have hf1 := HF.out.below hb1 (by rw [HSZ.out]; omega)
  have hr1 := HR.out.below hb1 (by rw [HSZ.out]; omega)
  have HB2 := Lib.hid (HB1.out.trans (hb1.mono HB1.out.size))
  have HF1 := Lib.hid hf1
  have HR1 := Lib.hid hr1
  have HL1 := Lib.hid hlt1
  clear hb1 hf1 hr1 hlt1
  go_wp2_with fail
  refine (C2.out _).mono ?_
  rintro e' w2 ⟨rfl, rfl⟩
  have k0 := HF1.out.cell 0
  have k1 := HF1.out.cell 1
  simp only [List.getElem?_cons_succ, List.getElem?_cons_zero] at k0 k1
  go_wp2_with fail
  refine (clone_any A n c zs _ (HA.out.below HB2.out) (by have := HM.out; omega)).mono ?_
  rintro e' w2 ⟨v2, rfl, hr2, hb2⟩
  have hL := HL1.out
  obtain ⟨g, cap, rfl, hg, hcap, hcm, _, _⟩ := hr2.slot HM.out.2.2.2.2.1
  have HC : Hid (Chp w w2 P (some A) n c g cap (chgL zs s (eraG) 0)) := Lib.hid ⟨HF1.out.below hb2 (by omega), HR1.out.below hb2 (by omega), Row.lower hr2 (by omega), by omega, HB2.out.trans (hb2.mono HB2.out.size)⟩
  have HG := Lib.hid (And.intro hcap (And.intro hcm hg))
  clear k0 k1 hr2 hb2 hcap hcm hg hL
  have k0 := HC.out.f.cell 0
  have k1 := HC.out.f.cell 1
  simp only [List.getElem?_cons_succ, List.getElem?_cons_zero] at k0 k1
  go_wp2_with fail
  go_loopw [52] (fun iv wr => ∃ i : Nat, i ≤ D ∧ iv = .int .i64 (i : Int) ∧ Hid (Chp w wr P (some A) n c g cap (chgL zs s (eraG) i))) (fun iv _ => D - (intOf iv).toNat)
  case atStart => exact ⟨0, Nat.zero_le _, rfl, HC⟩
  case round =>
    obtain ⟨i, hi, rfl, HI⟩ := hrel
    clear k0 k1 hew heI hec hse hcs hcs2
    by_cases hik : i = D
    · subst hik
      have hF0 := HI.out.f.cell 0
      have hF1 := HI.out.f.cell 1
      have hR0 := HI.out.r.cell 0
      have hR1 := HI.out.r.cell 1
      have hG0 := HI.out.r.free 0
      have hG1 := HI.out.r.free 1
      simp only [List.getElem?_cons_succ, List.getElem?_cons_zero] at hF0 hF1 hR0 hR1
      have hrw := (HI.out.row.far 0 (.int .i64 P) (Nat.lt_succ_self _)).far 1 (.slice (some ⟨g, 0, none⟩) n cap) (Nat.lt_succ_self _)
      obtain ⟨A9, c9, e9, hc9, hm9, hy9⟩ := hrw.bytes (HRG.out i)
      cases e9
      have hb9 := (HI.out.below.setCell (p := ⟨w.heap.size + 1, 0, none⟩) (by simp) (.int .i64 P)).setCell (p := ⟨w.heap.size + 1, 1, none⟩) (by simp) (.slice (some ⟨g, 0, none⟩) n cap)
      have HY9 := Lib.hid hy9
      have HB9 := Lib.hid hb9
      have HQ9 := Lib.hid (And.intro hc9 hm9)
      clear hrw hy9 hb9 hc9 hm9
      go_wp2
      refine bodyPost_ret (v := .tuple #[.agg #[.int .i64 P, .slice (some ⟨g, 0, none⟩) n cap], .int .i64 LB, .int .i64 PE]) (by simp [results, Try.results30, go_sem, *]) rfl ?_
      exact ⟨_, _, _, rfl, HY9.out, HQ9.out.1, HQ9.out.2, HB9.out⟩
    · have hM := HM.out
      have hik2 : (i : Int) < (D : Int) := by omega
      obtain ⟨j, hj⟩ : ∃ j, s + i = j := ⟨_, rfl⟩
      have hjI : (s : Int) + (i : Int) = (j : Int) := by omega
      have hjn : j < n := by omega
      have hjn2 : (j : Int) < (n : Int) := by omega
      have hjw := wrap_nat j (by omega)
      have hA1 := HA.out.below HI.out.below
      obtain ⟨_, e5, hcx⟩ := hA1.at_ j hjn
      cases e5
      have hx := hA1.byte j hjn
      have hadd : (A.add s).add i = A.add j := by rw [Addr.add_add', hj]
      obtain ⟨x, hxe⟩ : ∃ x, zs.getD j 0 = x := ⟨_, rfl⟩
      rw [hxe] at hx hcx
      have hcy : wr.cell? ((A.add s).add i) = some (.int .u8 x) := by rw [hadd]; exact hcx
      have HPX : Hid (Chp w (wr.setCell ⟨g, j, none⟩ (.int .u8 (eraG i x))) P (some A) n c g cap (chgL zs s (eraG) (i + 1))) := by
        have h := HI.out.put j hjn (eraG i x)
        rw [← hxe, ← hj, chgL_next zs s (eraG) i (by rw [HZL.out]; omega), hj, hxe] at h
        exact h
      obtain ⟨_, _, e6, _, _, _, hcell, hfree⟩ := HI.out.row.slot hM.2.2.2.2.1
      cases e6
      have hcJ := hcell j hjn
      have hfJ := hfree j hjn
      have CX := Lib.hid (CV.out i x wr HI.out.below (by omega) hx)
      have HX := Lib.hid hx
      have HXE := Lib.hid hxe
      clear hcell hfree hA1 hadd hx hxe hj hM hcx
      go_wp2_with fail
      refine (CX.out).mono ?_
      rintro e' w3 ⟨rfl, rfl⟩
      go_wp2
      go_roundw
      case rel => exact ⟨i + 1, by omega, by go_num, HPX⟩
      case measure => (simp [intOf]; omega)
set_option maxHeartbeats 4000000 in
theorem chg_prg_ok (bx : Nat) (P : Int) (A : Addr) (n c s k : Nat) (zs : List Int) (bs : List Int) (pg a b : Int) (w : World) (hA : Bytes w (some A) n zs) (hn0 : 0 < n) (hn : n ≤ 65536) (hc : n ≤ c) (hs : s + k ≤ n) (hsc : s < c) (hb : b ≤ 9223372036854775807)
    (hF : ∀ W, Calls Try.prog 24 #[.agg #[.int .i64 P, .slice (some A) n c], .int .i64 pg, .int .i64 a, .int .i64 (k : Int)] W fun e w' => e = .returned (.tuple #[.int .i64 (s : Int), .int .i64 0]) ∧ Below W.heap.size W w')
    (hV : ∀ (i : Nat) (x : Int) W, Below w.heap.size w W → i < k → 0 ≤ x ∧ x ≤ 255 → Calls Try.prog 31 #[.int .i64 (i : Int), .int .u8 x, .pointer (some ⟨bx, 0, none⟩)] W fun e w' => e = .returned (.int .u8 (prgG bs i x)) ∧ W = w') :
    Calls Try.prog 30 #[.agg #[.int .i64 P, .slice (some A) n c], .int .i64 pg, .int .i64 a, .int .i64 (k : Int), .int .i64 b, .func (.func 31) #[] #[.pointer (some ⟨bx, 0, none⟩)]] w (GivesF P (chgL zs s (prgG bs) (doneN b k)) (leftB b k) (powE6 b k) w) := by
  have c2 := fun W => spend_any b k W (by omega) hb
  have hdk := doneN_le b k
  generalize doneN b k = D at *
  generalize leftB b k = LB at *
  generalize powE6 b k = PE at *
  obtain ⟨e, he⟩ : ∃ e, s + D = e := ⟨_, rfl⟩
  have heI : (s : Int) + (D : Int) = (e : Int) := by omega
  have hen : e ≤ n := by omega
  have We := Lib.hid (wrap_nat e (by omega))
  have hec : (e : Int) ≤ (c : Int) := by omega
  have hse : (s : Int) ≤ (e : Int) := by omega
  have hcs : ¬ c = s := by omega
  have hcs2 : ¬ c - s = 0 := by omega
  have hed : ((e - s : Nat) : Int) = (D : Int) := by omega
  have HZL := Lib.hid hA.len
  have HRG := Lib.hid (fun d => chgL_rng (s := s) hA.rng (prgG_rng bs) d)
  have hb0 := (Below.refl w.heap.size w).alloc (Nat.le_refl _) (.cells #[.int .i64 P, .slice (some A) n c] 24)
  have hb1 := hb0.alloc (by simp) (.cells #[.int .i64 0, .slice none 0 0] 24)
  have hf := (Cs.new w 24 [.int .i64 P, .slice (some A) n c]).grow (.cells #[.int .i64 0, .slice none 0 0] 24)
  have hr := Cs.new2 w (.cells #[.int .i64 P, .slice (some A) n c] 24) 24 [.int .i64 0, .slice none 0 0]
  have hsz : ((w.alloc (.cells #[.int .i64 P, .slice (some A) n c] 24)).alloc (.cells #[.int .i64 0, .slice none 0 0] 24)).heap.size = w.heap.size + 2 := by simp
  have HF := Lib.hid hf
  have HR := Lib.hid hr
  have HB1 := Lib.hid hb1
  have HSZ := Lib.hid hsz
  have HA := Lib.hid hA
  have CF := Lib.hid hF
  have CV := Lib.hid hV
  have C2 := Lib.hid c2
  have HM := Lib.hid (And.intro hs (And.intro hdk (And.intro he (And.intro hen (And.intro hn0 hn)))))
  clear hb0 hb1 hf hr hsz hA hF hV c2 hn hs hb hc hsc hdk he hen hn0
  have hew := We.out
  go_enter Try.func30, Try.ntmps30
  go_wp2_with fail
  refine (CF.out _).mono ?_
  rintro e' w1 ⟨rfl, hb1⟩
  have hlt1 := hb1.size
  rw [HSZ.out] at hlt1
  have hf1 := HF.out.below hb1 (by rw [HSZ.out]; omega)
  have hr1 := HR.out.below hb1 (by rw [HSZ.out]; omega)
  have HB2 := Lib.hid (HB1.out.trans (hb1.mono HB1.out.size))
  have HF1 := Lib.hid hf1
  have HR1 := Lib.hid hr1
  have HL1 := Lib.hid hlt1
  clear hb1 hf1 hr1 hlt1
  go_wp2_with fail
  refine (C2.out _).mono ?_
  rintro e' w2 ⟨rfl, rfl⟩
  have k0 := HF1.out.cell 0
  have k1 := HF1.out.cell 1
  simp only [List.getElem?_cons_succ, List.getElem?_cons_zero] at k0 k1
  go_wp2_with fail
  refine (clone_any A n c zs _ (HA.out.below HB2.out) (by have := HM.out; omega)).mono ?_
  rintro e' w2 ⟨v2, rfl, hr2, hb2⟩
  have hL := HL1.out
  obtain ⟨g, cap, rfl, hg, hcap, hcm, _, _⟩ := hr2.slot HM.out.2.2.2.2.1
  have HC : Hid (Chp w w2 P (some A) n c g cap (chgL zs s (prgG bs) 0)) := Lib.hid ⟨HF1.out.below hb2 (by omega), HR1.out.below hb2 (by omega), Row.lower hr2 (by omega), by omega, HB2.out.trans (hb2.mono HB2.out.size)⟩
  have HG := Lib.hid (And.intro hcap (And.intro hcm hg))
  clear k0 k1 hr2 hb2 hcap hcm hg hL
  have k0 := HC.out.f.cell 0
  have k1 := HC.out.f.cell 1
  simp only [List.getElem?_cons_succ, List.getElem?_cons_zero] at k0 k1
  go_wp2_with fail
  go_loopw [52] (fun iv wr => ∃ i : Nat, i ≤ D ∧ iv = .int .i64 (i : Int) ∧ Hid (Chp w wr P (some A) n c g cap (chgL zs s (prgG bs) i))) (fun iv _ => D - (intOf iv).toNat)
  case atStart => exact ⟨0, Nat.zero_le _, rfl, HC⟩
  case round =>
    obtain ⟨i, hi, rfl, HI⟩ := hrel
    clear k0 k1 hew heI hec hse hcs hcs2
    by_cases hik : i = D
    · subst hik
      have hF0 := HI.out.f.cell 0
      have hF1 := HI.out.f.cell 1
      have hR0 := HI.out.r.cell 0
      have hR1 := HI.out.r.cell 1
      have hG0 := HI.out.r.free 0
      have hG1 := HI.out.r.free 1
      simp only [List.getElem?_cons_succ, List.getElem?_cons_zero] at hF0 hF1 hR0 hR1
      have hrw := (HI.out.row.far 0 (.int .i64 P) (Nat.lt_succ_self _)).far 1 (.slice (some ⟨g, 0, none⟩) n cap) (Nat.lt_succ_self _)
      obtain ⟨A9, c9, e9, hc9, hm9, hy9⟩ := hrw.bytes (HRG.out i)
      cases e9
      have hb9 := (HI.out.below.setCell (p := ⟨w.heap.size + 1, 0, none⟩) (by simp) (.int .i64 P)).setCell (p := ⟨w.heap.size + 1, 1, none⟩) (by simp) (.slice (some ⟨g, 0, none⟩) n cap)
      have HY9 := Lib.hid hy9
      have HB9 := Lib.hid hb9
      have HQ9 := Lib.hid (And.intro hc9 hm9)
      clear hrw hy9 hb9 hc9 hm9
      go_wp2
      refine bodyPost_ret (v := .tuple #[.agg #[.int .i64 P, .slice (some ⟨g, 0, none⟩) n cap], .int .i64 LB, .int .i64 PE]) (by simp [results, Try.results30, go_sem, *]) rfl ?_
      exact ⟨_, _, _, rfl, HY9.out, HQ9.out.1, HQ9.out.2, HB9.out⟩
    · have hM := HM.out
      have hik2 : (i : Int) < (D : Int) := by omega
      obtain ⟨j, hj⟩ : ∃ j, s + i = j := ⟨_, rfl⟩
      have hjI : (s : Int) + (i : Int) = (j : Int) := by omega
      have hjn : j < n := by omega
      have hjn2 : (j : Int) < (n : Int) := by omega
      have hjw := wrap_nat j (by omega)
      have hA1 := HA.out.below HI.out.below
      obtain ⟨_, e5, hcx⟩ := hA1.at_ j hjn
      cases e5
      have hx := hA1.byte j hjn
      have hadd : (A.add s).add i = A.add j := by rw [Addr.add_add', hj]
      obtain ⟨x, hxe⟩ : ∃ x, zs.getD j 0 = x := ⟨_, rfl⟩
      rw [hxe] at hx hcx
      have hcy : wr.cell? ((A.add s).add i) = some (.int .u8 x) := by rw [hadd]; exact hcx
      have HPX : Hid (Chp w (wr.setCell ⟨g, j, none⟩ (.int .u8 (prgG bs i x))) P (some A) n c g cap (chgL zs s (prgG bs) (i + 1))) := by
        have h := HI.out.put j hjn (prgG bs i x)
        rw [← hxe, ← hj, chgL_next zs s (prgG bs) i (by rw [HZL.out]; omega), hj, hxe] at h
        exact h
      obtain ⟨_, _, e6, _, _, _, hcell, hfree⟩ := HI.out.row.slot hM.2.2.2.2.1
      cases e6
      have hcJ := hcell j hjn
      have hfJ := hfree j hjn
      have CX := Lib.hid (CV.out i x wr HI.out.below (by omega) hx)
      have HX := Lib.hid hx
      have HXE := Lib.hid hxe
      clear hcell hfree hA1 hadd hx hxe hj hM hcx
      go_wp2_with fail
      refine (CX.out).mono ?_
      rintro e' w3 ⟨rfl, rfl⟩
      go_wp2
      go_roundw
      case rel => exact ⟨i + 1, by omega, by go_num, HPX⟩
      case measure => (simp [intOf]; omega)
set_option maxHeartbeats 4000000 in
theorem chg_prg_end (bx : Nat) (P : Int) (A : Addr) (n : Nat) (zs : List Int) (pg a b : Int) (w : World) (hA : Bytes w (some A) n zs) (hn0 : 0 < n) (hn : n ≤ 65536)  (hb : b ≤ 9223372036854775807)
    (hF : ∀ W, Calls Try.prog 24 #[.agg #[.int .i64 P, .slice (some A) n n], .int .i64 pg, .int .i64 a, .int .i64 0] W fun e w' => e = .returned (.tuple #[.int .i64 (n : Int), .int .i64 0]) ∧ Below W.heap.size W w') :
    Calls Try.prog 30 #[.agg #[.int .i64 P, .slice (some A) n n], .int .i64 pg, .int .i64 a, .int .i64 0, .int .i64 b, .func (.func 31) #[] #[.pointer (some ⟨bx, 0, none⟩)]] w (GivesF P (zs) (leftB b 0) (powE6 b 0) w) := by
  have c2 := fun W => spend_any b 0 W (by omega) hb
  have hd0 : doneN b 0 = 0 := by have := doneN_le b 0; omega
  rw [hd0] at c2
  have hnw := wrap_nat n (by omega)
  have HRG := Lib.hid hA.rng
  have hb0 := (Below.refl w.heap.size w).alloc (Nat.le_refl _) (.cells #[.int .i64 P, .slice (some A) n n] 24)
  have hb1 := hb0.alloc (by simp) (.cells #[.int .i64 0, .slice none 0 0] 24)
  have hf := (Cs.new w 24 [.int .i64 P, .slice (some A) n n]).grow (.cells #[.int .i64 0, .slice none 0 0] 24)
  have hr := Cs.new2 w (.cells #[.int .i64 P, .slice (some A) n n] 24) 24 [.int .i64 0, .slice none 0 0]
  have hsz : ((w.alloc (.cells #[.int .i64 P, .slice (some A) n n] 24)).alloc (.cells #[.int .i64 0, .slice none 0 0] 24)).heap.size = w.heap.size + 2 := by simp
  have HF := Lib.hid hf
  have HR := Lib.hid hr
  have HB1 := Lib.hid hb1
  have HSZ := Lib.hid hsz
  have HA := Lib.hid hA
  have CF := Lib.hid hF
  have C2 := Lib.hid c2
  have HM := Lib.hid (And.intro hn0 hn)
  clear hb0 hb1 hf hr hsz hA hF c2 hn hb hn0 hd0
  generalize leftB b 0 = LB at *
  generalize powE6 b 0 = PE at *
  go_enter Try.func30, Try.ntmps30
  go_wp2_with fail
  refine (CF.out _).mono ?_
  rintro e' w1 ⟨rfl, hb1⟩
  have hlt1 := hb1.size
  rw [HSZ.out] at hlt1
  have hf1 := HF.out.below hb1 (by rw [HSZ.out]; omega)
  have hr1 := HR.out.below hb1 (by rw [HSZ.out]; omega)
  have HB2 := Lib.hid (HB1.out.trans (hb1.mono HB1.out.size))
  have HF1 := Lib.hid hf1
  have HR1 := Lib.hid hr1
  have HL1 := Lib.hid hlt1
  clear hb1 hf1 hr1 hlt1
  go_wp2_with fail
  refine (C2.out _).mono ?_
  rintro e' w2 ⟨rfl, rfl⟩
  have k0 := HF1.out.cell 0
  have k1 := HF1.out.cell 1
  simp only [List.getElem?_cons_succ, List.getElem?_cons_zero] at k0 k1
  go_wp2_with fail
  refine (clone_any A n n zs _ (HA.out.below HB2.out) (by have := HM.out; omega)).mono ?_
  rintro e' w2 ⟨v2, rfl, hr2, hb2⟩
  have hL := HL1.out
  obtain ⟨g, cap, rfl, hg, hcap, hcm, _, _⟩ := hr2.slot HM.out.1
  have HC : Hid (Chp w w2 P (some A) n n g cap zs) := Lib.hid ⟨HF1.out.below hb2 (by omega), HR1.out.below hb2 (by omega), Row.lower hr2 (by omega), by omega, HB2.out.trans (hb2.mono HB2.out.size)⟩
  have HG := Lib.hid (And.intro hcap (And.intro hcm hg))
  clear k0 k1 hr2 hb2 hcap hcm hg hL
  have k0 := HC.out.f.cell 0
  have k1 := HC.out.f.cell 1
  simp only [List.getElem?_cons_succ, List.getElem?_cons_zero] at k0 k1
  go_wp2_with fail
  go_loopw [52] (fun iv wr => iv = .int .i64 0 ∧ Hid (Chp w wr P (some A) n n g cap zs)) (fun iv _ => 0 - (intOf iv).toNat)
  case atStart => exact ⟨rfl, HC⟩
  case round =>
    obtain ⟨rfl, HI⟩ := hrel
    clear k0 k1 hnw HC
    have hF0 := HI.out.f.cell 0
    have hF1 := HI.out.f.cell 1
    have hR0 := HI.out.r.cell 0
    have hR1 := HI.out.r.cell 1
    have hG0 := HI.out.r.free 0
    have hG1 := HI.out.r.free 1
    simp only [List.getElem?_cons_succ, List.getElem?_cons_zero] at hF0 hF1 hR0 hR1
    have hrw := (HI.out.row.far 0 (.int .i64 P) (Nat.lt_succ_self _)).far 1 (.slice (some ⟨g, 0, none⟩) n cap) (Nat.lt_succ_self _)
    obtain ⟨A9, c9, e9, hc9, hm9, hy9⟩ := hrw.bytes HRG.out
    cases e9
    have hb9 := (HI.out.below.setCell (p := ⟨w.heap.size + 1, 0, none⟩) (by simp) (.int .i64 P)).setCell (p := ⟨w.heap.size + 1, 1, none⟩) (by simp) (.slice (some ⟨g, 0, none⟩) n cap)
    have HY9 := Lib.hid hy9
    have HB9 := Lib.hid hb9
    have HQ9 := Lib.hid (And.intro hc9 hm9)
    clear hrw hy9 hb9 hc9 hm9
    go_wp2
    refine bodyPost_ret (v := .tuple #[.agg #[.int .i64 P, .slice (some ⟨g, 0, none⟩) n cap], .int .i64 LB, .int .i64 PE]) (by simp [results, Try.results30, go_sem, *]) rfl ?_
    exact ⟨_, _, _, rfl, HY9.out, HQ9.out.1, HQ9.out.2, HB9.out⟩
set_option maxHeartbeats 2000000 in
theorem chg_era_bad (P : Int) (A : Option Addr) (n c : Nat) (k E : Int) (pg a b : Int) (w : World) (hE : ¬ E = 0)
    (hF : ∀ W, Calls Try.prog 24 #[.agg #[.int .i64 P, .slice A n c], .int .i64 pg, .int .i64 a, .int .i64 k] W fun e w' => e = .returned (.tuple #[.int .i64 0, .int .i64 E]) ∧ Below W.heap.size W w') :
    Calls Try.prog 30 #[.agg #[.int .i64 P, .slice A n c], .int .i64 pg, .int .i64 a, .int .i64 k, .int .i64 b, .func (.func 35) #[] #[]] w (GivesF 0 [] 0 E w) := by
  have hb0 := (Below.refl w.heap.size w).alloc (Nat.le_refl _) (.cells #[.int .i64 P, .slice A n c] 24)
  have hb1 := hb0.alloc (by simp) (.cells #[.int .i64 0, .slice none 0 0] 24)
  have hr := Cs.new2 w (.cells #[.int .i64 P, .slice A n c] 24) 24 [.int .i64 0, .slice none 0 0]
  have hsz : ((w.alloc (.cells #[.int .i64 P, .slice A n c] 24)).alloc (.cells #[.int .i64 0, .slice none 0 0] 24)).heap.size = w.heap.size + 2 := by simp
  have HR := Lib.hid hr
  have HB1 := Lib.hid hb1
  have HSZ := Lib.hid hsz
  have CF := Lib.hid hF
  clear hb0 hb1 hr hsz hF
  go_enter Try.func30, Try.ntmps30
  go_wp2_with fail
  refine (CF.out _).mono ?_
  rintro e' w1 ⟨rfl, hb1⟩
  have hr1 := HR.out.below hb1 (by rw [HSZ.out]; exact Nat.lt_succ_self _)
  have HB2 := Lib.hid (HB1.out.trans (hb1.mono HB1.out.size))
  have k0 := hr1.cell 0
  have k1 := hr1.cell 1
  have g0 := hr1.free 0
  have g1 := hr1.free 1
  simp only [List.getElem?_cons_succ, List.getElem?_cons_zero] at k0 k1
  clear hb1 hr1
  go_wp2
  refine bodyPost_ret (v := .tuple #[.agg #[.int .i64 0, .slice none 0 0], .int .i64 0, .int .i64 E]) (by simp [results, Try.results30, go_sem, *]) rfl ?_
  exact ⟨none, 0, 0, rfl, ⟨rfl, fun z hz => by (cases hz), fun i hi => absurd hi (by omega)⟩, Nat.le_refl _, by omega, (HB2.out.setCell (p := ⟨w.heap.size + 1, 0, none⟩) (by simp) _).setCell (p := ⟨w.heap.size + 1, 1, none⟩) (by simp) _⟩
set_option maxHeartbeats 2000000 in
theorem chg_prg_bad (bx : Nat) (P : Int) (A : Option Addr) (n c : Nat) (k E : Int) (pg a b : Int) (w : World) (hE : ¬ E = 0)
    (hF : ∀ W, Calls Try.prog 24 #[.agg #[.int .i64 P, .slice A n c], .int .i64 pg, .int .i64 a, .int .i64 k] W fun e w' => e = .returned (.tuple #[.int .i64 0, .int .i64 E]) ∧ Below W.heap.size W w') :
    Calls Try.prog 30 #[.agg #[.int .i64 P, .slice A n c], .int .i64 pg, .int .i64 a, .int .i64 k, .int .i64 b, .func (.func 31) #[] #[.pointer (some ⟨bx, 0, none⟩)]] w (GivesF 0 [] 0 E w) := by
  have hb0 := (Below.refl w.heap.size w).alloc (Nat.le_refl _) (.cells #[.int .i64 P, .slice A n c] 24)
  have hb1 := hb0.alloc (by simp) (.cells #[.int .i64 0, .slice none 0 0] 24)
  have hr := Cs.new2 w (.cells #[.int .i64 P, .slice A n c] 24) 24 [.int .i64 0, .slice none 0 0]
  have hsz : ((w.alloc (.cells #[.int .i64 P, .slice A n c] 24)).alloc (.cells #[.int .i64 0, .slice none 0 0] 24)).heap.size = w.heap.size + 2 := by simp
  have HR := Lib.hid hr
  have HB1 := Lib.hid hb1
  have HSZ := Lib.hid hsz
  have CF := Lib.hid hF
  clear hb0 hb1 hr hsz hF
  go_enter Try.func30, Try.ntmps30
  go_wp2_with fail
  refine (CF.out _).mono ?_
  rintro e' w1 ⟨rfl, hb1⟩
  have hr1 := HR.out.below hb1 (by rw [HSZ.out]; exact Nat.lt_succ_self _)
  have HB2 := Lib.hid (HB1.out.trans (hb1.mono HB1.out.size))
  have k0 := hr1.cell 0
  have k1 := hr1.cell 1
  have g0 := hr1.free 0
  have g1 := hr1.free 1
  simp only [List.getElem?_cons_succ, List.getElem?_cons_zero] at k0 k1
  clear hb1 hr1
  go_wp2
  refine bodyPost_ret (v := .tuple #[.agg #[.int .i64 0, .slice none 0 0], .int .i64 0, .int .i64 E]) (by simp [results, Try.results30, go_sem, *]) rfl ?_
  exact ⟨none, 0, 0, rfl, ⟨rfl, fun z hz => by (cases hz), fun i hi => absurd hi (by omega)⟩, Nat.le_refl _, by omega, (HB2.out.setCell (p := ⟨w.heap.size + 1, 0, none⟩) (by simp) _).setCell (p := ⟨w.heap.size + 1, 1, none⟩) (by simp) _⟩
theorem era_clo (i x : Int) (w : World) : Calls Try.prog 35 #[.int .i64 i, .int .u8 x] w fun e w' => e = .returned (.int .u8 255) ∧ w = w' := by
  go_enter Try.func35, Try.ntmps35
  go_wp2
  go_ret
  exact ⟨rfl, rfl⟩
theorem prg_clo (bx i m d : Nat) (x : Int) (B : Option Addr) (bs : List Int) (w : World) (hc : w.cell? ⟨bx, 0, none⟩ = some (.slice B m d)) (hB : Bytes w B m bs) (hi : i < m) (hx : 0 ≤ x ∧ x ≤ 255) :
    Calls Try.prog 31 #[.int .i64 (i : Int), .int .u8 x, .pointer (some ⟨bx, 0, none⟩)] w fun e w' => e = .returned (.int .u8 (prgG bs i x)) ∧ w = w' := by
  obtain ⟨a, rfl, hcell⟩ := hB.at_ i hi
  have hy := hB.byte i hi
  have hand := and8 hx hy
  have hg : prgG bs i x = andB x (bs.getD i 0) := rfl
  rw [hg]
  generalize bs.getD i 0 = y at *
  generalize andB x y = z at *
  have hiI : (i : Int) < (m : Int) := by omega
  clear hB hg
  go_enter Try.func31, Try.ntmps31
  go_wp2
  go_ret
  exact ⟨rfl, rfl⟩
end Go.Proofs.Ytgoajnljgbcmdaa
