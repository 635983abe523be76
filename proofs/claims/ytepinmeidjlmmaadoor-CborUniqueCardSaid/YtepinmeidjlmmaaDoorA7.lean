import Derived.Test.YtepinmeidjlmmaaDoorA6
namespace Go.Proofs.YtepinmeidjlmmaaDoor
open Go.RowKit

def checkE (c : Nat) (s : List Lv) (k n : Int) (d : ByteArray) : Int :=
  if compB c s = true then 2 else if placeE c s k ≠ 0 then placeE c s k else if shapeB k n d = false then 4 else if tooLargeB k (argN k n d) = true then 8 else contentE s k n d
theorem check2 {c : Nat} {s : List Lv} {k n : Int} {d : ByteArray} (h : compB c s = true) : checkE c s k n d = 2 := by unfold checkE; rw [if_pos h]
theorem checkP {c : Nat} {s : List Lv} {k n : Int} {d : ByteArray} (h : compB c s = false) (h2 : placeE c s k ≠ 0) : checkE c s k n d = placeE c s k := by unfold checkE; rw [if_neg (by simp [h]), if_pos h2]
theorem check4 {c : Nat} {s : List Lv} {k n : Int} {d : ByteArray} (h : compB c s = false) (h2 : placeE c s k = 0) (h3 : shapeB k n d = false) : checkE c s k n d = 4 := by unfold checkE; rw [if_neg (by simp [h]), if_neg (by simp [h2]), if_pos h3]
theorem check8 {c : Nat} {s : List Lv} {k n : Int} {d : ByteArray} (h : compB c s = false) (h2 : placeE c s k = 0) (h3 : shapeB k n d = true) (h4 : tooLargeB k (argN k n d) = true) : checkE c s k n d = 8 := by
  unfold checkE; rw [if_neg (by simp [h]), if_neg (by simp [h2]), if_neg (by simp [h3]), if_pos h4]
theorem checkC {c : Nat} {s : List Lv} {k n : Int} {d : ByteArray} (h : compB c s = false) (h2 : placeE c s k = 0) (h3 : shapeB k n d = true) (h4 : tooLargeB k (argN k n d) = false) : checkE c s k n d = contentE s k n d := by
  unfold checkE; rw [if_neg (by simp [h]), if_neg (by simp [h2]), if_neg (by simp [h3]), if_neg (by simp [h4])]
theorem place_kind {c : Nat} {s : List Lv} {k : Int} (h : placeE c s k = 0) : c < 512 ∧ 1 ≤ k ∧ k ≤ 8 := by
  unfold placeE at h
  by_cases h1 : 512 ≤ c
  · rw [if_pos h1] at h; omega
  rw [if_neg h1] at h
  by_cases h2 : k < 1 ∨ 8 < k
  · rw [if_pos h2] at h; omega
  · omega
theorem size_of_empty {d : ByteArray} (h : d.toList.isEmpty = true) : d.size = 0 := by
  have h2 : d.data.toList = [] := by
    have e : d.toList = d.data.toList := Lib.toList_data d
    rw [e] at h
    simpa using h
  have := congrArg List.length h2
  simpa using this
/-- what an item without errors of its own is like -/
theorem sound_item {k n : Int} {d : ByteArray} (h3 : shapeB k n d = true) (h4 : tooLargeB k (argN k n d) = false) (h0 : 1 ≤ k) : (k = 7 → n ≤ 1) ∧ d.size ≤ 1024 := by
  by_cases hd : hasDataB k = true
  · refine ⟨fun h7 => (by subst h7; cases hd), ?_⟩
    unfold tooLargeB argN at h4
    simp [hd] at h4
    omega
  · have hd2 : hasDataB k = false := by simpa using hd
    have he : d.toList.isEmpty = true := by
      cases he : d.toList.isEmpty with
      | true => rfl
      | false => rw [shape_bad he hd2] at h3; cases h3
    refine ⟨fun h7 => ?_, by rw [size_of_empty he]; omega⟩
    rw [shape_sw (by simp [he])] at h3
    subst h7
    simpa using h3

def BoxS (B : Nat) (k n : Int) (d : ByteArray) (W : World) : Prop :=
  W.heap[B]? = some (.cells (itemCs k n d) 58 (0, 0)) ∧ W.cell? ⟨B, 0, none⟩ = some (.int .i64 k) ∧ W.cell? ⟨B, 1, none⟩ = some (.int .u64 n) ∧ W.cell? ⟨B, 2, none⟩ = some (.string d)
theorem BoxS.mk' {B : Nat} {k n : Int} {d : ByteArray} {W : World} (hB : W.heap[B]? = some (.cells (itemCs k n d) 58 (0, 0))) : BoxS B k n d W := ⟨hB, cell_of_block hB rfl, cell_of_block hB rfl, cell_of_block hB rfl⟩
theorem BoxS.step {B : Nat} {k n : Int} {d : ByteArray} {W W' : World} (h : BoxS B k n d W) (hb : Below W.heap.size W W') : BoxS B k n d W' := BoxS.mk' ((hb.block _ (lt_of_heap h.1)).trans h.1)

set_option maxRecDepth 100000 in
set_option maxHeartbeats 1000000 in
theorem check_any {base b c : Nat} {s : List Lv} {v : Value} (k n : Int) (d : ByteArray) (w : World) (h : nestAt w base b c s v) (ht : Tabs w) (hn0 : 0 ≤ n) (hd : d.size ≤ maxLen) :
    Calls Tryd.prog 39 #[.pointer (some ⟨b, 0, none⟩), itemV k n d] w fun e w' => e = .returned (.int .i64 (checkE c s k n d)) ∧ Below w.heap.size w w' := by
  have H := Lib.hid h
  have HT := Lib.hid ht
  have HB := Lib.hid ((Below.refl _ w).alloc (Nat.le_refl _) (.cells #[.int .i64 k, .int .u64 n, .string d] 58))
  have hN := h.later HB.out
  have HN := Lib.hid hN
  clear h ht hN
  by_cases hA : compB c s = true
  · rw [check2 hA]
    go_enter Tryd.func39, Tryd.ntmps39
    go_wp2_with (go_at_call 41; refine (complete_any _ HN.out).mono ?_; rintro e w1 ⟨rfl, rfl⟩)
    go_ret
    exact ⟨rfl, HB.out⟩
  have hA2 : compB c s = false := by simpa using hA
  clear hA
  by_cases hP : placeE c s k = 0
  · obtain ⟨hc, hk0, hk8⟩ := place_kind hP
    have hpb : (placeE c s k != 0) = false := by simp [hP]
    by_cases hS : shapeB k n d = true
    · have X := sound_item hS (k := k) (n := n) (d := d)
      by_cases hL : tooLargeB k (argN k n d) = true
      · rw [check8 hA2 hP hS hL]
        go_enter Tryd.func39, Tryd.ntmps39
        go_wp2_with (first | (go_at_call 41; refine (complete_any _ HN.out).mono ?_; rintro e w1 ⟨rfl, rfl⟩) | (go_at_call 55; refine (place_any _ _ HN.out).mono ?_; rintro e w1 ⟨rfl, m, rfl⟩) | (go_at_call 56; refine (shape_any _ _ _ _).mono ?_; rintro e w1 ⟨rfl, rfl⟩))
        have hb1 := (below_drewN HB.out m).alloc HB.out.size (.cells #[.int .i64 k, .int .u64 n, .string d] 58)
        have S0 := BoxS.step (W' := ((w.alloc (.cells #[.int .i64 k, .int .u64 n, .string d] 58)).drewN m).alloc (.cells #[.int .i64 k, .int .u64 n, .string d] 58)) (BoxS.mk' (heap_new w (.cells #[.int .i64 k, .int .u64 n, .string d] 58))) ((below_drewN (Below.refl _ (w.alloc (.cells #[.int .i64 k, .int .u64 n, .string d] 58))) m).alloc (Nat.le_refl _) _)
        have HS0 := Lib.hid S0
        clear S0
        go_region_held3 (fun W => W.heap[w.heap.size]? = some (.cells (itemCs k n d) 58 (0, 0)) ∧ W.cell? ⟨w.heap.size, 0, none⟩ = some (.int .i64 k) ∧ W.cell? ⟨w.heap.size, 1, none⟩ = some (.int .u64 n) ∧ W.cell? ⟨w.heap.size, 2, none⟩ = some (.string d))
          (first | (exact BoxS.step HS0.out (Below.refl _ _).drew) | (exact BoxS.step (by assumption) ((Below.refl _ _).alloc (Nat.le_refl _) _)) | (exact BoxS.step (by assumption) ((Below.refl _ _).alloc (Nat.le_refl _) _).drew) | (exact BoxS.step (by assumption) (Below.refl _ _)))
          (first | (go_at_call 53; refine (argument_any _ _ _ _ hd).mono ?_; rintro e w2 ⟨rfl, rfl⟩) | (go_at_call 57; refine (tooLarge_any _ _ _).mono ?_; rintro e w2 ⟨rfl, rfl⟩))
        go_wp2
        go_ret
        exact ⟨rfl, (hb1.alloc hb1.size _).drew⟩
      · have hL2 : tooLargeB k (argN k n d) = false := by simpa using hL
        obtain ⟨h7, hd2⟩ := X hL2 hk0
        clear hL X
        rw [checkC hA2 hP hS hL2]
        have H7 := Lib.hid h7
        clear h7
        go_enter Tryd.func39, Tryd.ntmps39
        go_wp2_with (first | (go_at_call 41; refine (complete_any _ HN.out).mono ?_; rintro e w1 ⟨rfl, rfl⟩) | (go_at_call 55; refine (place_any _ _ HN.out).mono ?_; rintro e w1 ⟨rfl, m, rfl⟩) | (go_at_call 56; refine (shape_any _ _ _ _).mono ?_; rintro e w1 ⟨rfl, rfl⟩))
        have hb1 := (below_drewN HB.out m).alloc HB.out.size (.cells #[.int .i64 k, .int .u64 n, .string d] 58)
        have S0 := BoxS.step (W' := ((w.alloc (.cells #[.int .i64 k, .int .u64 n, .string d] 58)).drewN m).alloc (.cells #[.int .i64 k, .int .u64 n, .string d] 58)) (BoxS.mk' (heap_new w (.cells #[.int .i64 k, .int .u64 n, .string d] 58))) ((below_drewN (Below.refl _ (w.alloc (.cells #[.int .i64 k, .int .u64 n, .string d] 58))) m).alloc (Nat.le_refl _) _)
        have HS0 := Lib.hid S0
        clear S0
        go_region_held3 (fun W => W.heap[w.heap.size]? = some (.cells (itemCs k n d) 58 (0, 0)) ∧ W.cell? ⟨w.heap.size, 0, none⟩ = some (.int .i64 k) ∧ W.cell? ⟨w.heap.size, 1, none⟩ = some (.int .u64 n) ∧ W.cell? ⟨w.heap.size, 2, none⟩ = some (.string d))
          (first | (exact BoxS.step HS0.out (Below.refl _ _).drew) | (exact BoxS.step (by assumption) ((Below.refl _ _).alloc (Nat.le_refl _) _)) | (exact BoxS.step (by assumption) ((Below.refl _ _).alloc (Nat.le_refl _) _).drew) | (exact BoxS.step (by assumption) (Below.refl _ _)))
          (first | (go_at_call 53; refine (argument_any _ _ _ _ hd).mono ?_; rintro e w2 ⟨rfl, rfl⟩) | (go_at_call 57; refine (tooLarge_any _ _ _).mono ?_; rintro e w2 ⟨rfl, rfl⟩))
        go_split_ands
        go_wp2_with (go_at_call 58; refine (content_any _ _ _ _ (by exact H.out.later (hb1.alloc hb1.size _).drew) (by exact HT.out.later (hb1.alloc hb1.size _).drew) hn0 hk0 hk8 H7.out (by omega)).mono ?_; rintro e w3 ⟨rfl, hb3⟩)
        go_ret
        exact ⟨rfl, (hb1.alloc hb1.size _).drew.trans (hb3.mono (hb1.alloc hb1.size _).drew.size)⟩
    · have hS2 : shapeB k n d = false := by simpa using hS
      clear hS
      rw [check4 hA2 hP hS2]
      go_enter Tryd.func39, Tryd.ntmps39
      go_wp2_with (first | (go_at_call 41; refine (complete_any _ HN.out).mono ?_; rintro e w1 ⟨rfl, rfl⟩) | (go_at_call 55; refine (place_any _ _ HN.out).mono ?_; rintro e w1 ⟨rfl, m, rfl⟩) | (go_at_call 56; refine (shape_any _ _ _ _).mono ?_; rintro e w1 ⟨rfl, rfl⟩))
      go_ret
      exact ⟨rfl, (below_drewN HB.out _).alloc HB.out.size _⟩
  · have hpb : (placeE c s k != 0) = true := by simpa using hP
    rw [checkP hA2 hP]
    clear hP
    go_enter Tryd.func39, Tryd.ntmps39
    go_wp2_with (first | (go_at_call 41; refine (complete_any _ HN.out).mono ?_; rintro e w1 ⟨rfl, rfl⟩) | (go_at_call 55; refine (place_any _ _ HN.out).mono ?_; rintro e w1 ⟨rfl, m, rfl⟩))
    go_ret
    exact ⟨rfl, below_drewN HB.out _⟩
end Go.Proofs.YtepinmeidjlmmaaDoor
