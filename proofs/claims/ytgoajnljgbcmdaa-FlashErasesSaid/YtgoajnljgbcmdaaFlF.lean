/- NewFlash of the reference. -/
import Derived.Test.YtgoajnljgbcmdaaFlE
namespace Go.Proofs.Ytgoajnljgbcmdaa
open Go.RowKit
set_option maxRecDepth 100000

/-- what New answers -/
def newE (P k : Int) : Int := if P < 512 ∨ 8192 < P ∨ k < 1 ∨ 8 < k then 9 else 0
def GivesN (P : Int) (l : List Int) (E : Int) (w : World) (e : Ending) (w' : World) : Prop := ∃ A n c, e = .returned (.tuple #[.agg #[.int .i64 P, .slice A n c], .int .i64 E]) ∧ Bytes w' A n l ∧ n ≤ c ∧ c ≤ 9223372036854775807 ∧ Below w.heap.size w w'
structure Nw (w W : World) (P : Int) (v : Value) (i : Nat) : Prop where
  f : Cs W (w.heap.size + 1) 24 [.int .i64 P, v]
  r : Cs W w.heap.size 24 [.int .i64 0, .slice none 0 0]
  row : Row W (w.heap.size + 2) v i (List.replicate i 255)
  below : Below w.heap.size w W
theorem ff_rng (k : Nat) : ∀ z ∈ List.replicate k (255 : Int), 0 ≤ z ∧ z ≤ 255 := by
  intro z hz
  rw [(List.mem_replicate.1 hz).2]
  omega
set_option maxHeartbeats 1000000 in
theorem newR_lo (P k : Int) (w : World) (h1 : P < 512) :
    Calls Try.prog 11 #[.int .i64 P, .int .i64 k] w (GivesN 0 [] 9 w) := by
  have hr := Cs.new w 24 [.int .i64 0, .slice none 0 0]
  have r0 := hr.cell 0
  have r1 := hr.cell 1
  have g0 := hr.free 0
  have g1 := hr.free 1
  simp only [List.getElem?_cons_succ, List.getElem?_cons_zero] at r0 r1
  have HB0 := Lib.hid ((Below.refl w.heap.size w).alloc (Nat.le_refl _) (.cells #[.int .i64 0, .slice none 0 0] 24))
  clear hr
  go_enter Try.func11, Try.ntmps11
  go_wp2
  refine bodyPost_ret (v := .tuple #[.agg #[.int .i64 0, .slice none 0 0], .int .i64 9]) (by simp [results, Try.results11, go_sem, *]) rfl ?_
  exact ⟨none, 0, 0, rfl, ⟨rfl, fun z hz => by (cases hz), fun i hi => absurd hi (by omega)⟩, Nat.le_refl _, by omega, HB0.out⟩
set_option maxHeartbeats 1000000 in
theorem newR_hi (P k : Int) (w : World) (h1 : ¬ P < 512) (h2 : 8192 < P) :
    Calls Try.prog 11 #[.int .i64 P, .int .i64 k] w (GivesN 0 [] 9 w) := by
  have hr := Cs.new w 24 [.int .i64 0, .slice none 0 0]
  have r0 := hr.cell 0
  have r1 := hr.cell 1
  have g0 := hr.free 0
  have g1 := hr.free 1
  simp only [List.getElem?_cons_succ, List.getElem?_cons_zero] at r0 r1
  have HB0 := Lib.hid ((Below.refl w.heap.size w).alloc (Nat.le_refl _) (.cells #[.int .i64 0, .slice none 0 0] 24))
  clear hr
  go_enter Try.func11, Try.ntmps11
  go_wp2
  refine bodyPost_ret (v := .tuple #[.agg #[.int .i64 0, .slice none 0 0], .int .i64 9]) (by simp [results, Try.results11, go_sem, *]) rfl ?_
  exact ⟨none, 0, 0, rfl, ⟨rfl, fun z hz => by (cases hz), fun i hi => absurd hi (by omega)⟩, Nat.le_refl _, by omega, HB0.out⟩
set_option maxHeartbeats 1000000 in
theorem newR_few (P k : Int) (w : World) (h1 : ¬ P < 512) (h2 : ¬ 8192 < P) (h3 : k < 1) :
    Calls Try.prog 11 #[.int .i64 P, .int .i64 k] w (GivesN 0 [] 9 w) := by
  have hr := Cs.new w 24 [.int .i64 0, .slice none 0 0]
  have r0 := hr.cell 0
  have r1 := hr.cell 1
  have g0 := hr.free 0
  have g1 := hr.free 1
  simp only [List.getElem?_cons_succ, List.getElem?_cons_zero] at r0 r1
  have HB0 := Lib.hid ((Below.refl w.heap.size w).alloc (Nat.le_refl _) (.cells #[.int .i64 0, .slice none 0 0] 24))
  clear hr
  go_enter Try.func11, Try.ntmps11
  go_wp2
  refine bodyPost_ret (v := .tuple #[.agg #[.int .i64 0, .slice none 0 0], .int .i64 9]) (by simp [results, Try.results11, go_sem, *]) rfl ?_
  exact ⟨none, 0, 0, rfl, ⟨rfl, fun z hz => by (cases hz), fun i hi => absurd hi (by omega)⟩, Nat.le_refl _, by omega, HB0.out⟩
set_option maxHeartbeats 1000000 in
theorem newR_many (P k : Int) (w : World) (h1 : ¬ P < 512) (h2 : ¬ 8192 < P) (h3 : ¬ k < 1) (h4 : 8 < k) :
    Calls Try.prog 11 #[.int .i64 P, .int .i64 k] w (GivesN 0 [] 9 w) := by
  have hr := Cs.new w 24 [.int .i64 0, .slice none 0 0]
  have r0 := hr.cell 0
  have r1 := hr.cell 1
  have g0 := hr.free 0
  have g1 := hr.free 1
  simp only [List.getElem?_cons_succ, List.getElem?_cons_zero] at r0 r1
  have HB0 := Lib.hid ((Below.refl w.heap.size w).alloc (Nat.le_refl _) (.cells #[.int .i64 0, .slice none 0 0] 24))
  clear hr
  go_enter Try.func11, Try.ntmps11
  go_wp2
  refine bodyPost_ret (v := .tuple #[.agg #[.int .i64 0, .slice none 0 0], .int .i64 9]) (by simp [results, Try.results11, go_sem, *]) rfl ?_
  exact ⟨none, 0, 0, rfl, ⟨rfl, fun z hz => by (cases hz), fun i hi => absurd hi (by omega)⟩, Nat.le_refl _, by omega, HB0.out⟩
set_option maxHeartbeats 4000000 in
theorem newR_own (p k : Nat) (w : World) (h1 : 512 ≤ p) (h2 : p ≤ 8192) (h3 : 1 ≤ k) (h4 : k ≤ 8) :
    Calls Try.prog 11 #[.int .i64 (p : Int), .int .i64 (k : Int)] w fun e w' => ∃ A c, e = .returned (.tuple #[.agg #[.int .i64 (p : Int), .slice A (p * k) c], .int .i64 0]) ∧ Row w' w.heap.size (.slice A (p * k) c) (p * k) (List.replicate (p * k) 255) ∧ Below w.heap.size w w' := by
  obtain ⟨N, hN⟩ : ∃ N, p * k = N := ⟨_, rfl⟩
  have hNI : (p : Int) * (k : Int) = (N : Int) := by rw [← hN]; exact (Int.natCast_mul _ _).symm
  have hNl : N ≤ 65536 := by
    rw [← hN]
    exact Nat.mul_le_mul h2 h4
  have WN := Lib.hid (wrap_nat N (by omega))
  rw [hN]
  have f1 : ¬ (p : Int) < 512 := by omega
  have f2 : ¬ (8192 : Int) < (p : Int) := by omega
  have f3 : ¬ (k : Int) < 1 := by omega
  have f4 : ¬ (8 : Int) < (k : Int) := by omega
  have hr := (Cs.new w 24 [.int .i64 0, .slice none 0 0]).grow (.cells #[.int .i64 (p : Int), .slice none 0 0] 24)
  have hf := Cs.new2 w (.cells #[.int .i64 0, .slice none 0 0] 24) 24 [.int .i64 (p : Int), .slice none 0 0]
  have hb0 := ((Below.refl w.heap.size w).alloc (Nat.le_refl _) (.cells #[.int .i64 0, .slice none 0 0] 24)).alloc (by simp) (.cells #[.int .i64 (p : Int), .slice none 0 0] 24)
  have HNW : Hid (Nw w ((w.alloc (.cells #[.int .i64 0, .slice none 0 0] 24)).alloc (.cells #[.int .i64 (p : Int), .slice none 0 0] 24)) (p : Int) (.slice none 0 0) 0) := Lib.hid ⟨hf, hr, Row.nil _ _, hb0⟩
  have z0 := (Cs.new2 w (.cells #[.int .i64 0, .slice none 0 0] 24) 24 [.int .i64 0, .slice none 0 0]).cell 0
  have z1 := (Cs.new2 w (.cells #[.int .i64 0, .slice none 0 0] 24) 24 [.int .i64 0, .slice none 0 0]).cell 1
  clear hN hr hf hb0
  have hNw := WN.out
  go_enter Try.func11, Try.ntmps11
  go_wp2_with fail
  go_loopw [7] (fun iv wr => ∃ (i : Nat) (v : Value), i ≤ N ∧ iv = .int .i64 (i : Int) ∧ Hid (Nw w wr (p : Int) v i)) (fun iv _ => N - (intOf iv).toNat)
  case atStart => exact ⟨0, .slice none 0 0, Nat.zero_le _, rfl, HNW⟩
  case round =>
    obtain ⟨i, v, hi, rfl, HI⟩ := hrel
    clear z0 z1 HNW
    have hF0 := HI.out.f.cell 0
    have hF1 := HI.out.f.cell 1
    have hR0 := HI.out.r.cell 0
    have hR1 := HI.out.r.cell 1
    have hG0 := HI.out.r.free 0
    have hG1 := HI.out.r.free 1
    have hne : ¬ w.heap.size + 1 = w.heap.size := by omega
    simp only [List.getElem?_cons_succ, List.getElem?_cons_zero] at hF0 hF1 hR0 hR1
    by_cases hiN : i = N
    · subst hiN
      have hrw := (HI.out.row.far 0 (.int .i64 (p : Int)) (show w.heap.size < w.heap.size + 2 by omega)).far 1 v (show w.heap.size < w.heap.size + 2 by omega)
      have hb9 := (HI.out.below.setCell (p := ⟨w.heap.size, 0, none⟩) (Nat.le_refl _) (.int .i64 (p : Int))).setCell (p := ⟨w.heap.size, 1, none⟩) (Nat.le_refl _) v
      obtain ⟨A9, c9, rfl, hc9, hm9, _⟩ := hrw.bytes (ff_rng i)
      have HW9 := Lib.hid (Row.lower hrw (show w.heap.size ≤ w.heap.size + 2 by omega))
      have HB9 := Lib.hid hb9
      clear hrw hb9 hc9 hm9
      go_wp2
      refine bodyPost_ret (v := .tuple #[.agg #[.int .i64 (p : Int), .slice A9 i c9], .int .i64 0]) (by simp [results, Try.results11, go_sem, *]) rfl ?_
      exact ⟨_, _, rfl, HW9.out, HB9.out⟩
    · have hlt : (i : Int) < (N : Int) := by omega
      have hb0 := (Below.refl wr.heap.size wr).alloc (Nat.le_refl _) (.cells #[.int .u8 255] 5)
      have HX := Lib.hid (one_byte wr 255 (by decide))
      have HRA := Lib.hid (HI.out.row.alloc (.cells #[.int .u8 255] 5))
      have hsz : w.heap.size + 2 ≤ wr.heap.size := HI.out.f.lt
      have HSZ : Hid (w.heap.size + 2 ≤ (wr.alloc (.cells #[.int .u8 255] 5)).heap.size) := Lib.hid (by simp; omega)
      have hfa := HI.out.f.grow (.cells #[.int .u8 255] 5)
      have hra := HI.out.r.grow (.cells #[.int .u8 255] 5)
      have HBA := Lib.hid (HI.out.below.trans (hb0.mono HI.out.below.size))
      have HFA := Lib.hid hfa
      have HRR := Lib.hid hra
      have HIL : Hid (i + 1 ≤ 100000000000000) := Lib.hid (by omega)
      clear hb0 hfa hra
      go_wp2_with (at_builtin; refine app_row rfl _ _ rfl (w.heap.size + 2) v i (List.replicate i 255) (some ⟨wr.heap.size, 0, none⟩) 1 1 [255] HRA.out rfl HX.out rfl HIL.out HSZ.out ?_)
      intro v2 w2 hr2 hb2
      have hf2 := HFA.out.below hb2 (by omega)
      have hq2 := HRR.out.below hb2 (by omega)
      have hrp : List.replicate i (255 : Int) ++ [255] = List.replicate (i + 1) 255 := List.replicate_succ'.symm
      rw [hrp] at hr2
      obtain ⟨g2, cap2, rfl, _, _, _, _, _⟩ := hr2.slot (Nat.succ_pos i)
      have HP : Hid (Nw w (w2.setCell ⟨w.heap.size + 1, 1, none⟩ (.slice (some ⟨g2, 0, none⟩) (i + 1) cap2)) (p : Int) (.slice (some ⟨g2, 0, none⟩) (i + 1) cap2) (i + 1)) := Lib.hid ⟨hf2.set_ 1 _, hq2.far_set 1 _ (by omega), hr2.far 1 _ (by omega), ((HBA.out.trans (hb2.mono (by omega)))).setCell (p := ⟨w.heap.size + 1, 1, none⟩) (by simp) _⟩
      have k0 := hf2.cell 0
      have k1 := hf2.cell 1
      have l0 := hf2.free 0
      have l1 := hf2.free 1
      simp only [List.getElem?_cons_succ, List.getElem?_cons_zero] at k0 k1
      clear hr2 hb2 hf2 hq2 hrp hF0 hF1 hR0 hR1 hG0 hG1
      go_wp2
      go_roundw
      case rel => exact ⟨i + 1, _, by omega, by go_num, HP⟩
      case measure => (simp [intOf]; omega)
theorem newR_ok (p k : Nat) (w : World) (h1 : 512 ≤ p) (h2 : p ≤ 8192) (h3 : 1 ≤ k) (h4 : k ≤ 8) :
    Calls Try.prog 11 #[.int .i64 (p : Int), .int .i64 (k : Int)] w (GivesN (p : Int) (List.replicate (p * k) 255) 0 w) := by
  refine (newR_own p k w h1 h2 h3 h4).mono ?_
  rintro e w' ⟨A, c, rfl, hr, hb⟩
  obtain ⟨A2, c2, e2, hc, hm, hy⟩ := hr.bytes (ff_rng _)
  cases e2
  exact ⟨A, _, c, rfl, hy, hc, hm, hb⟩
theorem newR_all (P k : Int) (w : World) :
    Calls Try.prog 11 #[.int .i64 P, .int .i64 k] w (GivesN (ifE (newE P k) P 0) (ifE (newE P k) (List.replicate (P * k).toNat 255) []) (newE P k) w) := by
  by_cases h : P < 512 ∨ 8192 < P ∨ k < 1 ∨ 8 < k
  · have e : newE P k = 9 := by unfold newE; rw [if_pos h]
    rw [e]
    show Calls _ _ _ _ (GivesN 0 [] 9 w)
    by_cases h1 : P < 512
    · exact newR_lo P k w h1
    · by_cases h2 : 8192 < P
      · exact newR_hi P k w h1 h2
      · by_cases h3 : k < 1
        · exact newR_few P k w h1 h2 h3
        · exact newR_many P k w h1 h2 h3 (by omega)
  · have e : newE P k = 0 := by unfold newE; rw [if_neg h]
    rw [e]
    obtain ⟨p, rfl⟩ := Int.eq_ofNat_of_zero_le (show 0 ≤ P by omega)
    obtain ⟨m, rfl⟩ := Int.eq_ofNat_of_zero_le (show 0 ≤ k by omega)
    have hx : ((p : Int) * (m : Int)).toNat = p * m := by rw [← Int.natCast_mul, Int.toNat_natCast]
    rw [hx]
    exact newR_ok p m w (by omega) (by omega) (by omega) (by omega)
end Go.Proofs.Ytgoajnljgbcmdaa
