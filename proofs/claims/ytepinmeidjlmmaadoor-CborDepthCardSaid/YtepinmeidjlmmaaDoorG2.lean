import Derived.Test.YtepinmeidjlmmaaDoorG1
namespace Go.Proofs.YtepinmeidjlmmaaDoor
open Go.RowKit

set_option maxRecDepth 100000 in
set_option maxHeartbeats 1000000 in
theorem depth_walk (n m J K : Nat) (w : World) (ht : Tabs w) (hn : n ≤ 255) (hm : m ≤ 65535) (hJ : (n : Int) % 12 = J) (hK : 500 + (m : Int) % 20 = K) (hJ2 : J < 12) (hK2 : K < 520) (h8 : ((J : Int) ≤ 8) = (validE (deepL J ++ [⟨8, 0, ⟨#[]⟩⟩]) = 0)) (h512 : ((K : Int) < 512) = (validE (wideL K K) = 0)) :
    Calls Tryd.prog 13 #[.int .u8 n, .int .u16 m] w fun e w' => e = .returned (.bool true) ∧ Below w.heap.size w w' := by
  have HT := Lib.hid ht
  have H8 := Lib.hid h8
  have H512 := Lib.hid h512
  clear ht h8 h512
  go_enter Tryd.func13, Tryd.ntmps13
  go_wp2_with fail
  go_loopw [5, 6] (fun v i wr => ∃ j : Nat, j ≤ J ∧ i = .int .i64 j ∧ wr.ownsRow w.heap.size 58 3 v j (itCells (deepL j)) ∧ Below w.heap.size w wr) (fun _ i _ => J - (intOf i).toNat)
  case atStart => exact ⟨0, by omega, rfl, World.ownsRow_nil _ _ _ _, Below.refl _ _⟩
  case round =>
    obtain ⟨j, hj, rfl, ho, hbw⟩ := hrel
    have HB := Lib.hid hbw
    have HO := Lib.hid ho
    have hsz := hbw.size
    clear hbw ho
    by_cases hlt : j < J
    · have hlt2 : (j : Int) < (n : Int) % 12 := by omega
      go_wp2_with (at_builtin; (refine app_items rfl _ _ rfl w.heap.size _ j (deepL j) [⟨5, 1, ⟨#[]⟩⟩] (wr.heap.size + 1) wr.heap.size 0 1 (HO.out.alloc _) rfl (lit_items wr 5 1 (by omega)) rfl (by simp) (by omega) (by simp) (by simp; omega) ?_); intro v2 w2 ho2 hb2)
      go_roundw
      case rel => exact ⟨j + 1, by omega, by go_num, by rw [deepL_succ]; exact ho2, below_lit HB.out hb2⟩
      case measure => simp [intOf]; omega
    · obtain rfl : J = j := by omega
      have hlt2 : ¬ (J : Int) < (n : Int) % 12 := by omega
      go_wp2_with (at_builtin; (refine app_items rfl _ _ rfl w.heap.size _ J (deepL J) [⟨8, 0, ⟨#[]⟩⟩] (wr.heap.size + 1) wr.heap.size 0 1 (HO.out.alloc _) rfl (lit_items wr 8 0 (by omega)) rfl (by simp) (by omega) (by simp) (by simp; omega) ?_); intro v2 w2 ho2 hb2)
      have hB2 : Below w.heap.size w w2 := below_lit HB.out hb2
      have HB2 := Lib.hid hB2
      have HO2 := Lib.hid ho2
      have hs2 := hB2.size
      have HW0 := Lib.hid (own_lit w2 5 K ⟨#[]⟩ w2.heap.size (Nat.le_refl _))
      have HBW0 := Lib.hid ((Below.refl w2.heap.size w2).alloc (Nat.le_refl _) (.cells #[.int .i64 5, .int .u64 K, .string ⟨#[]⟩] 58))
      clear hB2 ho2 hb2
      go_loopw [8, 9] (fun v i wr => ∃ j : Nat, j ≤ K ∧ i = .int .i64 j ∧ wr.ownsRow w2.heap.size 58 3 v (j + 1) (itCells (wideL K j)) ∧ Below w2.heap.size w2 wr) (fun _ i _ => K - (intOf i).toNat)
      case atStart => exact ⟨0, by omega, rfl, HW0.out, HBW0.out⟩
      case round =>
        obtain ⟨i, hi, rfl, ho3, hbw3⟩ := hrel
        have HB3 := Lib.hid hbw3
        have HO3 := Lib.hid ho3
        have hs3 := hbw3.size
        clear ho3 hbw3
        by_cases hlt3 : i < K
        · have hlt4 : (i : Int) < (K : Int) := by omega
          go_wp2_with (at_builtin; (refine app_items rfl _ _ rfl w2.heap.size _ (i + 1) (wideL K i) [⟨8, 0, ⟨#[]⟩⟩] (wr.heap.size + 1) wr.heap.size 0 1 (HO3.out.alloc _) rfl (lit_items wr 8 0 (by omega)) rfl (by simp) (by omega) (by simp) (by simp; omega) ?_); intro v3 w3 ho3 hb3)
          go_roundw
          case rel => exact ⟨i + 1, by omega, by go_num, by rw [wideL_succ]; exact ho3, below_lit HB3.out hb3⟩
          case measure => simp [intOf]; omega
        · obtain rfl : K = i := by omega
          have hod := own_below HO2.out HB3.out
          have how := HO3.out
          have hBW := HB2.out.trans (HB3.out.mono hs2)
          obtain ⟨g1, c1, rfl⟩ : ∃ g c, v2 = .slice (some ⟨g, 0, none⟩) (J + 1) c := by
            rcases hod.2 with ⟨_, h⟩ | ⟨g, c, _, h, _⟩
            · simp at h
            · exact ⟨g, c, h⟩
          obtain ⟨g2, c2, rfl⟩ : ∃ g c, u8 = .slice (some ⟨g, 0, none⟩) (K + 1) c := by
            rcases how.2 with ⟨_, h⟩ | ⟨g, c, _, h, _⟩
            · simp at h
            · exact ⟨g, c, h⟩
          have hp1 : ∀ x ∈ deepL J ++ [⟨8, 0, ⟨#[]⟩⟩], 0 ≤ x.n ∧ x.d.size ≤ maxLen := by
            intro x hx
            rcases List.mem_append.1 hx with h | h
            · rw [List.eq_of_mem_replicate h]; exact ⟨by simp, Nat.zero_le _⟩
            · rw [List.mem_singleton.1 h]; exact ⟨by simp, Nat.zero_le _⟩
          have hp2 : ∀ x ∈ wideL K K, 0 ≤ x.n ∧ x.d.size ≤ maxLen := by
            intro x hx
            rcases List.mem_cons.1 hx with h | h
            · rw [h]; exact ⟨by simp, Nat.zero_le _⟩
            · rw [List.eq_of_mem_replicate h]; exact ⟨by simp, Nat.zero_le _⟩
          have hI1 := itemsAt_own hod hp1 (by simp [deepL]; omega)
          have hI2 := itemsAt_own how hp2 (by simp [wideL]; omega)
          have C1 := fun W (hW : Below wr.heap.size wr W) => validate_any _ _ W (itemsAt_mono (hI1.below hW) hW.size) (HT.out.later (below_aft hBW hW))
          have R1 := fun W (hW : Below wr.heap.size wr W) => validR_any _ _ W (itemsAt_mono (hI1.below hW) hW.size) (HT.out.later (below_aft hBW hW))
          have C2 := fun W (hW : Below wr.heap.size wr W) => validate_any _ _ W (itemsAt_mono (hI2.below hW) hW.size) (HT.out.later (below_aft hBW hW))
          have R2 := fun W (hW : Below wr.heap.size wr W) => validR_any _ _ W (itemsAt_mono (hI2.below hW) hW.size) (HT.out.later (below_aft hBW hW))
          have CA := fun W (hW : Below wr.heap.size wr W) => awake_any W (HT.out.later (below_aft hBW hW))
          rw [← valid_same _ (fun x hx => (hp1 x hx).1)] at R1
          rw [← valid_same _ (fun x hx => (hp2 x hx).1)] at R2
          have e8 := H8.out
          have e512 := H512.out
          generalize validE (deepL J ++ [⟨8, 0, ⟨#[]⟩⟩]) = E1 at C1 R1 e8
          generalize validE (wideL K K) = E2 at C2 R2 e512
          have hc : ((J : Int) ≤ 8 ∧ E1 = 0 ∨ ¬ (J : Int) ≤ 8 ∧ E1 ≠ 0) ∧ ((K : Int) < 512 ∧ E2 = 0 ∨ ¬ (K : Int) < 512 ∧ E2 ≠ 0) := by
            refine ⟨?_, ?_⟩
            · by_cases h : (J : Int) ≤ 8
              · exact .inl ⟨h, e8.mp h⟩
              · exact .inr ⟨h, fun h0 => h (e8.mpr h0)⟩
            · by_cases h : (K : Int) < 512
              · exact .inl ⟨h, e512.mp h⟩
              · exact .inr ⟨h, fun h0 => h (e512.mpr h0)⟩
          have H1 := Lib.hid C1
          have H2 := Lib.hid R1
          have H3 := Lib.hid C2
          have H4 := Lib.hid R2
          have H5 := Lib.hid CA
          have HBWH := Lib.hid hBW
          clear C1 R1 C2 R2 CA hI1 hI2 hod how hBW e8 e512 hp1 hp2
          obtain ⟨hc1, hc2⟩ := hc
          have hq1 : (E1 == 0) = decide ((J : Int) ≤ 8) := by
            rcases hc1 with ⟨a1, a2⟩ | ⟨a1, a2⟩
            · simp [a1, a2]
            · rw [beq_eq_false_iff_ne.2 a2, decide_eq_false a1]
          have hq2 : (E2 == 0) = decide ((K : Int) < 512) := by
            rcases hc2 with ⟨a1, a2⟩ | ⟨a1, a2⟩
            · simp [a1, a2]
            · rw [beq_eq_false_iff_ne.2 a2, decide_eq_false a1]
          clear hc1 hc2
          all_goals
            have a3 : ((n : Int) % 12 ≤ 8) = ((J : Int) ≤ 8) := by rw [hJ]
            go_wp2_with fail
            refine (H1.out _ (Below.refl _ _)).mono ?_
            rintro e x1 ⟨rfl, y1⟩
            go_wp2_with fail
            refine (H2.out _ y1).mono ?_
            rintro e x2 ⟨rfl, y2⟩
            have z2 := below_aft y1 y2
            go_wp2_with fail
            refine (H1.out _ z2).mono ?_
            rintro e x3 ⟨rfl, y3⟩
            have z3 := below_aft z2 y3
            go_wp2_with fail
            refine (H3.out _ z3).mono ?_
            rintro e x4 ⟨rfl, y4⟩
            have z4 := below_aft z3 y4
            go_wp2_with fail
            refine (H4.out _ z4).mono ?_
            rintro e x5 ⟨rfl, y5⟩
            have z5 := below_aft z4 y5
            go_wp2_with fail
            refine (H3.out _ z5).mono ?_
            rintro e x6 ⟨rfl, y6⟩
            have z6 := below_aft z5 y6
            go_wp2_with fail
            refine (H5.out _ z6).mono ?_
            rintro e x7 ⟨rfl, y7⟩
            have z7 := below_aft z6 y7
            go_wp2
            go_ret
            exact ⟨rfl, below_aft HBWH.out z7⟩

end Go.Proofs.YtepinmeidjlmmaaDoor
