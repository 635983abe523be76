/- The law DigestWords, walked. -/
import Derived.Test.YtjimbmgbeklecaaSipR
import Derived.Test.YtjimbmgbeklecaaHeld
namespace Go.Proofs.Ytjimbmgbeklecaa
open Go.RowKit
set_option maxRecDepth 100000

theorem Ws.drew {w : World} {A : Option Addr} {n : Nat} {ws : List (BitVec 64)} (h : Ws w A n ws) : Ws w.drew A n ws := ⟨h.len, h.at_⟩

set_option maxHeartbeats 4000000 in
theorem words_law (A : Option Addr) (n c : Nat) (wl : List (BitVec 64)) (A2 : Option Addr) (n2 c2 : Nat) (wm : List (BitVec 64)) (w : World) (h1 : Ws w A n wl) (h2 : Ws w A2 n2 wm) (hn : n ≤ 100) (hn2 : n2 ≤ 100) :
    Calls Try.prog 5 #[.slice A n c, .slice A2 n2 c2] w fun e w' => e = .returned (.bool true) ∧ Below w.heap.size w w' := by
  have hl1 := h1.len
  have hl2 := h2.len
  have H1 := Lib.hid h1
  have H2 := Lib.hid h2
  clear h1 h2
  have hadd := fun (W : World) => run_string_add_sum (P := Try.prog) (w := W) (strOfNums (wsBytes wl)) (strOfNums (wsBytes wm)) (by rw [strOfNums_size, strOfNums_size, wsBytes_len, wsBytes_len]; omega)
  rw [strOf_app, ← wsBytes_app] at hadd
  have hsz : (strOfNums (wsBytes wl)).size + (strOfNums (wsBytes wm)).size ≤ 100000 := by rw [strOfNums_size, strOfNums_size, wsBytes_len, wsBytes_len]; omega
  generalize hsL : strOfNums (wsBytes wl) = sL at *
  generalize hsM : strOfNums (wsBytes wm) = sM at *
  generalize hsB : strOfNums (wsBytes (wl ++ wm)) = sB at *
  have HsL := Lib.hid hsL
  have HsM := Lib.hid hsM
  have HsB := Lib.hid hsB
  clear hsL hsM hsB hl1 hl2
  go_enter Try.func5, Try.ntmps5
  go_wp2_with (first
    | (at_builtin; refine app_words rfl _ _ rfl w.heap.size v1 n wl A2 n2 c2 wm HO1.out rfl (H2.out.below hb1) rfl (by omega) hsz1 ?_; intro v2 w2 ho2 hb2)
    | (at_builtin; refine app_words rfl _ _ rfl w.heap.size _ 0 [] A n c wl (World.ownsRow_nil w _ _ _) rfl H1.out rfl (by omega) (Nat.le_refl _) ?_; intro v1 w1 ho1 hb1; rw [Nat.zero_add, List.nil_append] at ho1; have hsz1 := hb1.size; have HO1 := Lib.hid ho1; clear ho1)
    | fail)
  obtain ⟨A3, c3, rfl, hW3⟩ := own_words ho2
  have hb12 := hb1.trans hb2
  have HL := Lib.hid (H1.out.below hb12)
  have HM := Lib.hid (H2.out.below hb12)
  have HW3 := Lib.hid hW3
  have HB0 := Lib.hid hb12
  clear ho2 hb1 hb2 hW3 hb12
  refine held_begin (by kernel_rfl) ?_
  refine held_take (i := 0) (v := ?_) rfl rfl (by kernel_rfl) (by kernel_rfl) (by kernel_rfl) (fun _ _ _ h => h) (by rfl) ?_ ?_
  rotate_left
  · intro W hW
    go_simp
    try with_reducible rfl
  simp only [Act.put, List.setIfInBounds_toArray, List.set_cons_zero, List.set_cons_succ]
  refine held_take (i := 3) (v := ?_) rfl rfl (by kernel_rfl) (by kernel_rfl) (by kernel_rfl) (fun _ _ _ h => h) (by rfl) ?_ ?_
  rotate_left
  · intro W hW
    go_simp
    try with_reducible rfl
  simp only [Act.put, List.setIfInBounds_toArray, List.set_cons_zero, List.set_cons_succ]
  refine held_call (i := 1) (by kernel_rfl) rfl (fun K' hK => ?_)
  go_simp
  refine (words_str A3 (n + n2) c3 (wl ++ wm) sB _ HW3.out.drew HsB.out (by omega)).mono ?_
  rintro e w3 ⟨B1, k1, rfl, hs, hb⟩
  refine hK.out _ _ hb ?_
  clear hK K'
  have HL := Lib.hid (HL.out.drew.below hb)
  have HM := Lib.hid (HM.out.drew.below hb)
  have HW3 := Lib.hid (HW3.out.drew.below hb)
  have HB1 := Lib.hid (HB0.out.drew.trans (hb.mono HB0.out.drew.size))
  have HS := Lib.hid hs
  clear hs hb
  refine held_take (i := 2) (v := ?_) rfl rfl (by kernel_rfl) (by kernel_rfl) (by kernel_rfl) (fun _ _ _ h => h) (by rfl) ?_ ?_
  rotate_left
  · intro W hW
    have cv := HS.out W hW
    go_simp
    try with_reducible rfl
  simp only [Act.put, List.setIfInBounds_toArray, List.set_cons_zero, List.set_cons_succ]
  refine held_call (i := 4) (by kernel_rfl) rfl (fun K' hK => ?_)
  go_simp
  refine (wordsR_str A3 (n + n2) c3 (wl ++ wm) sB _ HW3.out HsB.out (by omega)).mono ?_
  rintro e w4 ⟨B2, k2, rfl, hs, hb⟩
  refine hK.out _ _ hb ?_
  clear hK K'
  have HL := Lib.hid (HL.out.below hb)
  have HM := Lib.hid (HM.out.below hb)
  have HW3 := Lib.hid (HW3.out.below hb)
  have HB2 := Lib.hid (HB1.out.trans (hb.mono HB1.out.size))
  have HS := Lib.hid hs
  clear hs hb
  refine held_take (i := 5) (v := ?_) rfl rfl (by kernel_rfl) (by kernel_rfl) (by kernel_rfl) (fun _ _ _ h => h) (by rfl) ?_ ?_
  rotate_left
  · intro W hW
    have cv := HS.out W hW
    go_simp
    try with_reducible rfl
  simp only [Act.put, List.setIfInBounds_toArray, List.set_cons_zero, List.set_cons_succ]
  refine held_take (i := 6) (v := ?_) rfl rfl (by kernel_rfl) (by kernel_rfl) (by kernel_rfl) (fun _ _ _ h => h) (by rfl) ?_ ?_
  rotate_left
  · intro W hW
    go_simp
    try with_reducible rfl
  simp only [Act.put, List.setIfInBounds_toArray, List.set_cons_zero, List.set_cons_succ]
  refine held_take (i := 7) (v := ?_) rfl rfl (by kernel_rfl) (by kernel_rfl) (by kernel_rfl) (fun _ _ _ h => h) (by rfl) ?_ ?_
  rotate_left
  · intro W hW
    go_simp
    try with_reducible rfl
  simp only [Act.put, List.setIfInBounds_toArray, List.set_cons_zero, List.set_cons_succ]
  refine held_take (i := 8) (v := ?_) rfl rfl (by kernel_rfl) (by kernel_rfl) (by kernel_rfl) (fun _ _ _ h => h) (by rfl) ?_ ?_
  rotate_left
  · intro W hW
    go_simp
    try with_reducible rfl
  simp only [Act.put, List.setIfInBounds_toArray, List.set_cons_zero, List.set_cons_succ]
  refine held_take (i := 11) (v := ?_) rfl rfl (by kernel_rfl) (by kernel_rfl) (by kernel_rfl) (fun _ _ _ h => h) (by rfl) ?_ ?_
  rotate_left
  · intro W hW
    go_simp
    try with_reducible rfl
  simp only [Act.put, List.setIfInBounds_toArray, List.set_cons_zero, List.set_cons_succ]
  refine held_take (i := 15) (v := ?_) rfl rfl (by kernel_rfl) (by kernel_rfl) (by kernel_rfl) (fun _ _ _ h => h) (by rfl) ?_ ?_
  rotate_left
  · intro W hW
    go_simp
    try with_reducible rfl
  simp only [Act.put, List.setIfInBounds_toArray, List.set_cons_zero, List.set_cons_succ]
  refine held_call (i := 9) (by kernel_rfl) rfl (fun K' hK => ?_)
  go_simp
  refine (words_str A n c wl sL _ HL.out HsL.out (by omega)).mono ?_
  rintro e w5 ⟨B3, k3, rfl, hs, hb⟩
  refine hK.out _ _ hb ?_
  clear hK K'
  have HL := Lib.hid (HL.out.below hb)
  have HM := Lib.hid (HM.out.below hb)
  have HW3 := Lib.hid (HW3.out.below hb)
  have HB3 := Lib.hid (HB2.out.trans (hb.mono HB2.out.size))
  have HS := Lib.hid hs
  clear hs hb
  refine held_take (i := 10) (v := ?_) rfl rfl (by kernel_rfl) (by kernel_rfl) (by kernel_rfl) (fun _ _ _ h => h) (by rfl) ?_ ?_
  rotate_left
  · intro W hW
    have cv := HS.out W hW
    go_simp
    try with_reducible rfl
  simp only [Act.put, List.setIfInBounds_toArray, List.set_cons_zero, List.set_cons_succ]
  refine held_call (i := 12) (by kernel_rfl) rfl (fun K' hK => ?_)
  go_simp
  refine (words_str A2 n2 c2 wm sM _ HM.out HsM.out (by omega)).mono ?_
  rintro e w6 ⟨B4, k4, rfl, hs, hb⟩
  refine hK.out _ _ hb ?_
  clear hK K'
  have HL := Lib.hid (HL.out.below hb)
  have HM := Lib.hid (HM.out.below hb)
  have HW3 := Lib.hid (HW3.out.below hb)
  have HB4 := Lib.hid (HB3.out.trans (hb.mono HB3.out.size))
  have HS := Lib.hid hs
  clear hs hb
  refine held_take (i := 13) (v := ?_) rfl rfl (by kernel_rfl) (by kernel_rfl) (by kernel_rfl) (fun _ _ _ h => h) (by rfl) ?_ ?_
  rotate_left
  · intro W hW
    have cv := HS.out W hW
    go_simp
    try with_reducible rfl
  simp only [Act.put, List.setIfInBounds_toArray, List.set_cons_zero, List.set_cons_succ]
  refine held_take (i := 14) (v := ?_) rfl rfl (by kernel_rfl) (by kernel_rfl) (by kernel_rfl) (fun _ _ _ h => h) (by rfl) ?_ ?_
  rotate_left
  · intro W hW
    go_simp
    try with_reducible rfl
  simp only [Act.put, List.setIfInBounds_toArray, List.set_cons_zero, List.set_cons_succ]
  refine held_call (i := 16) (by kernel_rfl) rfl (fun K' hK => ?_)
  go_simp
  refine (words_str A3 (n + n2) c3 (wl ++ wm) sB _ HW3.out HsB.out (by omega)).mono ?_
  rintro e w7 ⟨B5, k5, rfl, hs, hb⟩
  refine hK.out _ _ hb ?_
  clear hK K'
  have HL := Lib.hid (HL.out.below hb)
  have HM := Lib.hid (HM.out.below hb)
  have HW3 := Lib.hid (HW3.out.below hb)
  have HB5 := Lib.hid (HB4.out.trans (hb.mono HB4.out.size))
  have HS := Lib.hid hs
  clear hs hb
  refine held_take (i := 17) (v := ?_) rfl rfl (by kernel_rfl) (by kernel_rfl) (by kernel_rfl) (fun _ _ _ h => h) (by rfl) ?_ ?_
  rotate_left
  · intro W hW
    have cv := HS.out W hW
    go_simp
    try with_reducible rfl
  simp only [Act.put, List.setIfInBounds_toArray, List.set_cons_zero, List.set_cons_succ]
  refine held_take (i := 18) (v := ?_) rfl rfl (by kernel_rfl) (by kernel_rfl) (by kernel_rfl) (fun _ _ _ h => h) (by rfl) ?_ ?_
  rotate_left
  · intro W hW
    go_simp
    try with_reducible rfl
  simp only [Act.put, List.setIfInBounds_toArray, List.set_cons_zero, List.set_cons_succ]
  refine held_take (i := 19) (v := ?_) rfl rfl (by kernel_rfl) (by kernel_rfl) (by kernel_rfl) (fun _ _ _ h => h) (by rfl) ?_ ?_
  rotate_left
  · intro W hW
    go_simp
    try with_reducible rfl
  simp only [Act.put, List.setIfInBounds_toArray, List.set_cons_zero, List.set_cons_succ]
  refine held_take (i := 20) (v := ?_) rfl rfl (by kernel_rfl) (by kernel_rfl) (by kernel_rfl) (fun _ _ _ h => h) (by rfl) ?_ ?_
  rotate_left
  · intro W hW
    go_simp
    try with_reducible rfl
  simp only [Act.put, List.setIfInBounds_toArray, List.set_cons_zero, List.set_cons_succ]
  refine held_call (i := 21) (by kernel_rfl) rfl (fun K' hK => ?_)
  go_simp
  refine (awake_any _).mono ?_
  rintro e w8 ⟨rfl, hb⟩
  refine hK.out _ _ hb ?_
  clear hK K'
  have HB6 := Lib.hid (HB5.out.trans (hb.mono HB5.out.size))
  clear hb
  refine held_take (i := 22) (v := ?_) rfl rfl (by kernel_rfl) (by kernel_rfl) (by kernel_rfl) (fun _ _ _ h => h) (by rfl) ?_ ?_
  rotate_left
  · intro W hW
    go_simp
    try with_reducible rfl
  simp only [Act.put, List.setIfInBounds_toArray, List.set_cons_zero, List.set_cons_succ]
  refine held_take (i := 23) (v := ?_) rfl rfl (by kernel_rfl) (by kernel_rfl) (by kernel_rfl) (fun _ _ _ h => h) (by rfl) ?_ ?_
  rotate_left
  · intro W hW
    go_simp
    try with_reducible rfl
  simp only [Act.put, List.setIfInBounds_toArray, List.set_cons_zero, List.set_cons_succ]
  refine wpAnyH_done (by kernel_rfl) ?_ _
  go_wp2
  go_ret
  exact ⟨rfl, HB6.out⟩

set_option maxHeartbeats 1000000 in
theorem words_law_big (A : Option Addr) (n c : Nat) (A2 : Option Addr) (n2 c2 : Nat) (w : World) (h : 100 < n ∨ 100 < n2) :
    Calls Try.prog 5 #[.slice A n c, .slice A2 n2 c2] w fun e w' => e = .returned (.bool true) ∧ Below w.heap.size w w' := by
  by_cases hlt : 100 < n
  · clear h
    go_enter Try.func5, Try.ntmps5
    go_wp2_with fail
    refine (awake_any _).mono ?_
    rintro e w1 ⟨rfl, hb1⟩
    go_wp2
    go_ret
    exact ⟨rfl, hb1⟩
  · have hlt2 : 100 < n2 := by omega
    clear h
    go_enter Try.func5, Try.ntmps5
    go_wp2_with fail
    refine (awake_any _).mono ?_
    rintro e w1 ⟨rfl, hb1⟩
    go_wp2
    go_ret
    exact ⟨rfl, hb1⟩
theorem words_law_at (A : Option Addr) (n c : Nat) (wl : List (BitVec 64)) (A2 : Option Addr) (n2 c2 : Nat) (wm : List (BitVec 64)) (w : World) (h1 : Ws w A n wl) (h2 : Ws w A2 n2 wm) :
    Calls Try.prog 5 #[.slice A n c, .slice A2 n2 c2] w fun e w' => e = .returned (.bool true) ∧ Below w.heap.size w w' := by
  by_cases h : 100 < n ∨ 100 < n2
  · exact words_law_big A n c A2 n2 c2 w h
  · exact words_law A n c wl A2 n2 c2 wm w h1 h2 (by omega) (by omega)
end Go.Proofs.Ytjimbmgbeklecaa
