/- change of the reference. -/
import Derived.Test.YtgoajnljgbcmdaaFlA
import Derived.Test.YtgoajnljgbcmdaaCsA
namespace Go.Proofs.Ytgoajnljgbcmdaa
open Go.RowKit
set_option maxRecDepth 100000

/-- what stands while bytes are changed: the flash's cell, the result's cell, the new bytes -/
structure Chg (w W : World) (P : Int) (g n cap : Nat) (l : List Int) : Prop where
  f : Cs W w.heap.size 24 [.int .i64 P, .slice (some ⟨g, 0, none⟩) n cap]
  r : Cs W (w.heap.size + 1) 24 [.int .i64 0, .slice none 0 0]
  row : Row W (w.heap.size + 2) (.slice (some ⟨g, 0, none⟩) n cap) n l
  far : w.heap.size + 2 ≤ g
  below : Below w.heap.size w W
theorem Chg.put {w W : World} {P : Int} {g n cap : Nat} {l : List Int} (h : Chg w W P g n cap l) (j : Nat) (hj : j < n) (z : Int) : Chg w (W.setCell ⟨g, j, none⟩ (.int .u8 z)) P g n cap (l.set j z) := by
  have hg := h.far
  exact ⟨h.f.far_set j _ (by omega), h.r.far_set j _ (by omega), h.row.put j hj z, hg, h.below.setCell (p := ⟨g, j, none⟩) (by simp only; omega) _⟩
theorem Chg.drew {w W : World} {P : Int} {g n cap : Nat} {l : List Int} (h : Chg w W P g n cap l) : Chg w W.drew P g n cap l :=
  ⟨h.f.drew, h.r.drew, h.row.below (Below.refl _ W).drew, h.far, h.below.drew⟩
/-- the budget before the byte number i -/
def budN (b : Int) (i : Nat) : Int := if b < 0 then b else b - i
/-- a changed flash is returned -/
def GivesF (P : Int) (l : List Int) (B E : Int) (w : World) (e : Ending) (w' : World) : Prop := ∃ A n c, e = .returned (.tuple #[.agg #[.int .i64 P, .slice A n c], .int .i64 B, .int .i64 E]) ∧ Bytes w' A n l ∧ n ≤ c ∧ c ≤ 9223372036854775807 ∧ Below w.heap.size w w'
set_option maxHeartbeats 8000000 in
theorem chgR_era (P : Int) (A B : Option Addr) (n c s k d : Nat) (zs : List Int) (b : Int) (w : World) (hA : Bytes w A n zs) (hn0 : 0 < n) (hn : n ≤ 65536) (hs : s + k ≤ n) (hb : b ≤ 9223372036854775807) :
    Calls Try.prog 34 #[.agg #[.int .i64 P, .slice A n c], .int .i64 (s : Int), .int .i64 (k : Int), .slice B 0 d, .int .i64 b] w (GivesF P (chgL zs s eraG (doneN b k)) (leftB b k) (powE6 b k) w) := by
  have hb0 := (Below.refl w.heap.size w).alloc (Nat.le_refl _) (.cells #[.int .i64 P, .slice A n c] 24)
  have hb1 := hb0.alloc (by simp) (.cells #[.int .i64 0, .slice none 0 0] 24)
  have hf := (Cs.new w 24 [.int .i64 P, .slice A n c]).grow (.cells #[.int .i64 0, .slice none 0 0] 24)
  have hr := Cs.new2 w (.cells #[.int .i64 P, .slice A n c] 24) 24 [.int .i64 0, .slice none 0 0]
  have HF := Lib.hid hf
  have HR := Lib.hid hr
  have HB1 := Lib.hid hb1
  have HA1 := Lib.hid (hA.below hb1)
  have HRG := Lib.hid (fun d => chgL_rng (s := s) hA.rng eraG_rng d)
  have HLL := Lib.hid hA.len
  have f1 := hf.free 1
  have f2 := hf.cell 1
  simp only [List.getElem?_cons_succ, List.getElem?_cons_zero] at f2
  clear hA hb0 hb1 hf hr
  go_enter Try.func34, Try.ntmps34
  go_wp2_with (at_builtin; refine app_row rfl _ _ rfl (w.heap.size + 2) (.slice none 0 0) 0 [] A n c zs (Row.nil _ _) rfl HA1.out rfl (by omega) (by simp) ?_)
  intro v1 w1 hr1 hb1
  try simp only [Nat.zero_add, List.nil_append] at hr1
  have hf1 := HF.out.below hb1 (by omega)
  have hq1 := HR.out.below hb1 (by omega)
  obtain ⟨g, cap, rfl, hg, hcap, hcm, _, _⟩ := hr1.slot hn0
  have hC : Chg w (w1.setCell ⟨w.heap.size, 1, none⟩ (.slice (some ⟨g, 0, none⟩) n cap)) P g n cap zs := by
    refine ⟨hf1.set_ 1 _, hq1.far_set 1 _ (by omega), ?_, hg, (HB1.out.trans (hb1.mono (by simp))).setCell (p := ⟨w.heap.size, 1, none⟩) (Nat.le_refl _) _⟩
    exact hr1.far 1 _ (by omega)
  have HC := Lib.hid hC
  clear f1 f2
  have f1 := hf1.free 1
  have f2 := hf1.cell 1
  simp only [List.getElem?_cons_succ, List.getElem?_cons_zero] at f2
  clear hC hr1 hb1 hf1 hq1
  go_wp2_with fail
  go_loopw [4, 13] (fun bv iv wr => ∃ i : Nat, i ≤ k ∧ iv = .int .i64 (i : Int) ∧ bv = .int .i64 (budN b i) ∧ (b < 0 ∨ (i : Int) ≤ b) ∧ Hid (Chg w wr P g n cap (chgL zs s eraG i))) (fun _ iv _ => k - (intOf iv).toNat)
  case atStart => exact ⟨0, Nat.zero_le _, rfl, by unfold budN; split <;> simp, by omega, HC⟩
  case round =>
    obtain ⟨i, hi, rfl, rfl, hbi, HI⟩ := hrel
    have hF0 := HI.out.f.cell 0
    have hF1 := HI.out.f.cell 1
    have hR0 := HI.out.r.cell 0
    have hR1 := HI.out.r.cell 1
    have hG0 := HI.out.r.free 0
    have hG1 := HI.out.r.free 1
    have hne : ¬ w.heap.size + 1 = w.heap.size := by omega
    simp only [List.getElem?_cons_succ, List.getElem?_cons_zero] at hF0 hF1 hR0 hR1
    clear f1 f2
    by_cases hik : i = k
    · subst hik
      have hdn : doneN b i = i := by unfold doneN; rw [if_pos (by omega)]
      have hlf : leftB b i = budN b i := by
        unfold leftB budN
        by_cases h0 : b < 0
        · rw [if_pos h0, if_pos h0]
        · rw [if_neg h0, if_neg h0, if_pos (by omega)]
      have hpw : powE6 b i = 0 := by unfold powE6; rw [if_pos (by omega)]
      have HD := Lib.hid (And.intro hdn (And.intro hlf hpw))
      clear hdn hlf hpw
      generalize budN b i = u at *
      have hrw := HI.out.row.far 0 (.int .i64 P) (show w.heap.size + 1 < w.heap.size + 2 by omega)
      have hrw2 := hrw.far 1 (.slice (some ⟨g, 0, none⟩) n cap) (show w.heap.size + 1 < w.heap.size + 2 by omega)
      obtain ⟨A9, c9, e9, hc9, hm9, hy9⟩ := hrw2.bytes (HRG.out i)
      cases e9
      have hb9 := (HI.out.below.setCell (p := ⟨w.heap.size + 1, 0, none⟩) (by simp) (.int .i64 P)).setCell (p := ⟨w.heap.size + 1, 1, none⟩) (by simp) (.slice (some ⟨g, 0, none⟩) n cap)
      have HY9 := Lib.hid hy9
      have HB9 := Lib.hid hb9
      have HQ9 := Lib.hid (And.intro hc9 hm9)
      clear hrw hrw2 hy9 hb9 hc9 hm9
      go_wp2
      refine bodyPost_ret (v := .tuple #[.agg #[.int .i64 P, .slice (some ⟨g, 0, none⟩) n cap], .int .i64 u, .int .i64 0]) (by simp [results, Try.results34, go_sem, *]) rfl ?_
      rw [HD.out.1, HD.out.2.1, HD.out.2.2]
      exact ⟨_, _, _, rfl, HY9.out, HQ9.out.1, HQ9.out.2, HB9.out⟩
    · have hik2 : (i : Int) < (k : Int) := by omega
      by_cases hz : budN b i = 0
      · have hbi2 : b = (i : Int) := by
          unfold budN at hz
          by_cases h0 : b < 0
          · rw [if_pos h0] at hz
            omega
          · rw [if_neg h0] at hz
            omega
        have hdn : doneN b k = i := by unfold doneN; rw [if_neg (by omega)]; omega
        have hlf : leftB b k = 0 := by unfold leftB; rw [if_neg (by omega), if_neg (by omega)]
        have hpw : powE6 b k = 16 := by unfold powE6; rw [if_neg (by omega)]
        have HD := Lib.hid (And.intro hdn (And.intro hlf hpw))
        clear hdn hlf hpw hbi2
        have hrw := HI.out.row.far 0 (.int .i64 P) (show w.heap.size + 1 < w.heap.size + 2 by omega)
        have hrw2 := hrw.far 1 (.slice (some ⟨g, 0, none⟩) n cap) (show w.heap.size + 1 < w.heap.size + 2 by omega)
        obtain ⟨A9, c9, e9, hc9, hm9, hy9⟩ := hrw2.bytes (HRG.out i)
        cases e9
        have hb9 := (HI.out.below.setCell (p := ⟨w.heap.size + 1, 0, none⟩) (by simp) (.int .i64 P)).setCell (p := ⟨w.heap.size + 1, 1, none⟩) (by simp) (.slice (some ⟨g, 0, none⟩) n cap)
        have HY9 := Lib.hid hy9
        have HB9 := Lib.hid hb9
        have HQ9 := Lib.hid (And.intro hc9 hm9)
        clear hrw hrw2 hy9 hb9 hc9 hm9
        go_wp2
        refine bodyPost_ret (v := .tuple #[.agg #[.int .i64 P, .slice (some ⟨g, 0, none⟩) n cap], .int .i64 0, .int .i64 16]) (by simp [results, Try.results34, go_sem, *]) rfl ?_
        rw [HD.out.1, HD.out.2.1, HD.out.2.2]
        exact ⟨_, _, _, rfl, HY9.out, HQ9.out.1, HQ9.out.2, HB9.out⟩
      · have hbn : budN b (i + 1) = if 0 < budN b i then budN b i - 1 else budN b i := by
          unfold budN
          by_cases h0 : b < 0
          · rw [if_pos h0, if_pos h0, if_neg (by omega)]
          · rw [if_neg h0, if_neg h0, if_pos (by unfold budN at hz; rw [if_neg h0] at hz; omega)]
            omega
        have hbi3 : b < 0 ∨ ((i + 1 : Nat) : Int) ≤ b := by
          unfold budN at hz
          by_cases h0 : b < 0
          · exact .inl h0
          · rw [if_neg h0] at hz
            omega
        have hbm : budN b i ≤ 9223372036854775807 := by
          unfold budN
          split <;> omega
        have HN := Lib.hid hbn
        have HI3 := Lib.hid hbi3
        obtain ⟨j, hj⟩ : ∃ j, s + i = j := ⟨_, rfl⟩
        have hjI : (s : Int) + (i : Int) = (j : Int) := by omega
        have hjl : j < n := by omega
        obtain ⟨_, _, e5, _, _, _, hcell, hfree⟩ := HI.out.row.slot hn0
        cases e5
        have hcJ := hcell j hjl
        have hfJ := hfree j hjl
        have hp := HI.out.put j hjl 255
        have hcl : (chgL zs s eraG i).set j 255 = chgL zs s eraG (i + 1) := by rw [chgL, hj]; rfl
        rw [hcl] at hp
        have HP := Lib.hid hp
        clear hcell hfree hp hcl hbn hj hbi hbi3
        generalize budN b i = u at *
        by_cases hu : 0 < u
        · have hub : IntKind.i64.wrap (u - 1) = u - 1 := by rw [IntKind.wrap_i64]; omega
          have huw : wrap64 (u - 1) = u - 1 := by unfold wrap64; omega
          have HN2 : Hid (budN b (i + 1) = u - 1) := Lib.hid (by rw [HN.out, if_pos hu])
          go_wp2
          go_roundw
          case rel => exact ⟨i + 1, by omega, by go_num, by rw [HN2.out], HI3.out, HP⟩
          case measure => (simp [intOf]; omega)
        · have HN2 : Hid (budN b (i + 1) = u) := Lib.hid (by rw [HN.out, if_neg hu])
          go_wp2
          go_roundw
          case rel => exact ⟨i + 1, by omega, by go_num, by rw [HN2.out], HI3.out, HP⟩
          case measure => (simp [intOf]; omega)
set_option maxHeartbeats 8000000 in
theorem chgR_prg (P : Int) (A B : Option Addr) (n c s k d : Nat) (zs bs : List Int) (b : Int) (w : World) (hA : Bytes w A n zs) (hn0 : 0 < n) (hn : n ≤ 65536) (hs : s + k ≤ n) (hb : b ≤ 9223372036854775807) (hB : Bytes w B k bs) (hk0 : 0 < k) :
    Calls Try.prog 34 #[.agg #[.int .i64 P, .slice A n c], .int .i64 (s : Int), .int .i64 (k : Int), .slice B k d, .int .i64 b] w (GivesF P (chgL zs s (prgG bs) (doneN b k)) (leftB b k) (powE6 b k) w) := by
  have hb0 := (Below.refl w.heap.size w).alloc (Nat.le_refl _) (.cells #[.int .i64 P, .slice A n c] 24)
  have hb1 := hb0.alloc (by simp) (.cells #[.int .i64 0, .slice none 0 0] 24)
  have hf := (Cs.new w 24 [.int .i64 P, .slice A n c]).grow (.cells #[.int .i64 0, .slice none 0 0] 24)
  have hr := Cs.new2 w (.cells #[.int .i64 P, .slice A n c] 24) 24 [.int .i64 0, .slice none 0 0]
  have HF := Lib.hid hf
  have HR := Lib.hid hr
  have HB1 := Lib.hid hb1
  have HA1 := Lib.hid (hA.below hb1)
  have HRG := Lib.hid (fun d => chgL_rng (s := s) hA.rng (prgG_rng bs) d)
  have HLL := Lib.hid hA.len
  have HBS := Lib.hid hB
  have f1 := hf.free 1
  have f2 := hf.cell 1
  simp only [List.getElem?_cons_succ, List.getElem?_cons_zero] at f2
  clear hA hb0 hb1 hf hr hB
  go_enter Try.func34, Try.ntmps34
  go_wp2_with (at_builtin; refine app_row rfl _ _ rfl (w.heap.size + 2) (.slice none 0 0) 0 [] A n c zs (Row.nil _ _) rfl HA1.out rfl (by omega) (by simp) ?_)
  intro v1 w1 hr1 hb1
  try simp only [Nat.zero_add, List.nil_append] at hr1
  have hf1 := HF.out.below hb1 (by omega)
  have hq1 := HR.out.below hb1 (by omega)
  obtain ⟨g, cap, rfl, hg, hcap, hcm, _, _⟩ := hr1.slot hn0
  have hC : Chg w (w1.setCell ⟨w.heap.size, 1, none⟩ (.slice (some ⟨g, 0, none⟩) n cap)) P g n cap zs := by
    refine ⟨hf1.set_ 1 _, hq1.far_set 1 _ (by omega), ?_, hg, (HB1.out.trans (hb1.mono (by simp))).setCell (p := ⟨w.heap.size, 1, none⟩) (Nat.le_refl _) _⟩
    exact hr1.far 1 _ (by omega)
  have HC := Lib.hid hC
  clear f1 f2
  have f1 := hf1.free 1
  have f2 := hf1.cell 1
  simp only [List.getElem?_cons_succ, List.getElem?_cons_zero] at f2
  clear hC hr1 hb1 hf1 hq1
  go_wp2_with fail
  go_loopw [4, 13] (fun bv iv wr => ∃ i : Nat, i ≤ k ∧ iv = .int .i64 (i : Int) ∧ bv = .int .i64 (budN b i) ∧ (b < 0 ∨ (i : Int) ≤ b) ∧ Hid (Chg w wr P g n cap (chgL zs s (prgG bs) i))) (fun _ iv _ => k - (intOf iv).toNat)
  case atStart => exact ⟨0, Nat.zero_le _, rfl, by unfold budN; split <;> simp, by omega, HC⟩
  case round =>
    obtain ⟨i, hi, rfl, rfl, hbi, HI⟩ := hrel
    have hF0 := HI.out.f.cell 0
    have hF1 := HI.out.f.cell 1
    have hR0 := HI.out.r.cell 0
    have hR1 := HI.out.r.cell 1
    have hG0 := HI.out.r.free 0
    have hG1 := HI.out.r.free 1
    have hne : ¬ w.heap.size + 1 = w.heap.size := by omega
    simp only [List.getElem?_cons_succ, List.getElem?_cons_zero] at hF0 hF1 hR0 hR1
    clear f1 f2
    by_cases hik : i = k
    · subst hik
      have hdn : doneN b i = i := by unfold doneN; rw [if_pos (by omega)]
      have hlf : leftB b i = budN b i := by
        unfold leftB budN
        by_cases h0 : b < 0
        · rw [if_pos h0, if_pos h0]
        · rw [if_neg h0, if_neg h0, if_pos (by omega)]
      have hpw : powE6 b i = 0 := by unfold powE6; rw [if_pos (by omega)]
      have HD := Lib.hid (And.intro hdn (And.intro hlf hpw))
      clear hdn hlf hpw
      generalize budN b i = u at *
      have hrw := HI.out.row.far 0 (.int .i64 P) (show w.heap.size + 1 < w.heap.size + 2 by omega)
      have hrw2 := hrw.far 1 (.slice (some ⟨g, 0, none⟩) n cap) (show w.heap.size + 1 < w.heap.size + 2 by omega)
      obtain ⟨A9, c9, e9, hc9, hm9, hy9⟩ := hrw2.bytes (HRG.out i)
      cases e9
      have hb9 := (HI.out.below.setCell (p := ⟨w.heap.size + 1, 0, none⟩) (by simp) (.int .i64 P)).setCell (p := ⟨w.heap.size + 1, 1, none⟩) (by simp) (.slice (some ⟨g, 0, none⟩) n cap)
      have HY9 := Lib.hid hy9
      have HB9 := Lib.hid hb9
      have HQ9 := Lib.hid (And.intro hc9 hm9)
      clear hrw hrw2 hy9 hb9 hc9 hm9
      go_wp2
      refine bodyPost_ret (v := .tuple #[.agg #[.int .i64 P, .slice (some ⟨g, 0, none⟩) n cap], .int .i64 u, .int .i64 0]) (by simp [results, Try.results34, go_sem, *]) rfl ?_
      rw [HD.out.1, HD.out.2.1, HD.out.2.2]
      exact ⟨_, _, _, rfl, HY9.out, HQ9.out.1, HQ9.out.2, HB9.out⟩
    · have hik2 : (i : Int) < (k : Int) := by omega
      by_cases hz : budN b i = 0
      · have hbi2 : b = (i : Int) := by
          unfold budN at hz
          by_cases h0 : b < 0
          · rw [if_pos h0] at hz
            omega
          · rw [if_neg h0] at hz
            omega
        have hdn : doneN b k = i := by unfold doneN; rw [if_neg (by omega)]; omega
        have hlf : leftB b k = 0 := by unfold leftB; rw [if_neg (by omega), if_neg (by omega)]
        have hpw : powE6 b k = 16 := by unfold powE6; rw [if_neg (by omega)]
        have HD := Lib.hid (And.intro hdn (And.intro hlf hpw))
        clear hdn hlf hpw hbi2
        have hrw := HI.out.row.far 0 (.int .i64 P) (show w.heap.size + 1 < w.heap.size + 2 by omega)
        have hrw2 := hrw.far 1 (.slice (some ⟨g, 0, none⟩) n cap) (show w.heap.size + 1 < w.heap.size + 2 by omega)
        obtain ⟨A9, c9, e9, hc9, hm9, hy9⟩ := hrw2.bytes (HRG.out i)
        cases e9
        have hb9 := (HI.out.below.setCell (p := ⟨w.heap.size + 1, 0, none⟩) (by simp) (.int .i64 P)).setCell (p := ⟨w.heap.size + 1, 1, none⟩) (by simp) (.slice (some ⟨g, 0, none⟩) n cap)
        have HY9 := Lib.hid hy9
        have HB9 := Lib.hid hb9
        have HQ9 := Lib.hid (And.intro hc9 hm9)
        clear hrw hrw2 hy9 hb9 hc9 hm9
        go_wp2
        refine bodyPost_ret (v := .tuple #[.agg #[.int .i64 P, .slice (some ⟨g, 0, none⟩) n cap], .int .i64 0, .int .i64 16]) (by simp [results, Try.results34, go_sem, *]) rfl ?_
        rw [HD.out.1, HD.out.2.1, HD.out.2.2]
        exact ⟨_, _, _, rfl, HY9.out, HQ9.out.1, HQ9.out.2, HB9.out⟩
      · have hbn : budN b (i + 1) = if 0 < budN b i then budN b i - 1 else budN b i := by
          unfold budN
          by_cases h0 : b < 0
          · rw [if_pos h0, if_pos h0, if_neg (by omega)]
          · rw [if_neg h0, if_neg h0, if_pos (by unfold budN at hz; rw [if_neg h0] at hz; omega)]
            omega
        have hbi3 : b < 0 ∨ ((i + 1 : Nat) : Int) ≤ b := by
          unfold budN at hz
          by_cases h0 : b < 0
          · exact .inl h0
          · rw [if_neg h0] at hz
            omega
        have hbm : budN b i ≤ 9223372036854775807 := by
          unfold budN
          split <;> omega
        have HN := Lib.hid hbn
        have HI3 := Lib.hid hbi3
        obtain ⟨j, hj⟩ : ∃ j, s + i = j := ⟨_, rfl⟩
        have hjI : (s : Int) + (i : Int) = (j : Int) := by omega
        have hjl : j < n := by omega
        obtain ⟨_, _, e5, _, _, _, hcell, hfree⟩ := HI.out.row.slot hn0
        cases e5
        have hcJ := hcell j hjl
        have hfJ := hfree j hjl
        obtain ⟨ob, ho⟩ : ∃ ob, (chgL zs s (prgG bs) i).getD j 0 = ob := ⟨_, rfl⟩
        rw [ho] at hcJ
        have hor : 0 ≤ ob ∧ ob ≤ 255 := by
          rw [← ho]
          obtain ⟨_, _, e6, _, _, hy6⟩ := HI.out.row.bytes (HRG.out i)
          cases e6
          exact hy6.byte j hjl
        have hBw := HBS.out.below HI.out.below
        obtain ⟨vb, hv⟩ : ∃ vb, bs.getD i 0 = vb := ⟨_, rfl⟩
        have hvr := hBw.byte i (by omega)
        obtain ⟨a, rfl, hcb⟩ := hBw.at_ i (by omega)
        rw [hv] at hvr hcb
        have hand := and8 hor hvr
        obtain ⟨r, hr⟩ : ∃ r, andB ob vb = r := ⟨_, rfl⟩
        rw [hr] at hand
        have hp := (HI.out.put j hjl r).drew
        have hcl : (chgL zs s (prgG bs) i).set j r = chgL zs s (prgG bs) (i + 1) := by rw [← hr, ← ho, ← hv, chgL, hj]; rfl
        rw [hcl] at hp
        have HP := Lib.hid hp
        clear hcell hfree hp hcl hbn hj hbi hbi3 ho hv hr hor hvr
        generalize budN b i = u at *
        by_cases hu : 0 < u
        · have hub : IntKind.i64.wrap (u - 1) = u - 1 := by rw [IntKind.wrap_i64]; omega
          have huw : wrap64 (u - 1) = u - 1 := by unfold wrap64; omega
          have HN2 : Hid (budN b (i + 1) = u - 1) := Lib.hid (by rw [HN.out, if_pos hu])
          go_wp2_with fail
          go_region
          all_goals
            go_wp2
            go_roundw
            case rel => exact ⟨i + 1, by omega, by go_num, by rw [HN2.out], HI3.out, HP⟩
            case measure => (simp [intOf]; omega)
        · have HN2 : Hid (budN b (i + 1) = u) := Lib.hid (by rw [HN.out, if_neg hu])
          go_wp2_with fail
          go_region
          all_goals
            go_wp2
            go_roundw
            case rel => exact ⟨i + 1, by omega, by go_num, by rw [HN2.out], HI3.out, HP⟩
            case measure => (simp [intOf]; omega)
end Go.Proofs.Ytgoajnljgbcmdaa
