/- Joined: A6, A7, A8, A9. -/
import Derived.Test.YtepinmeidjlmmaaDoorR1
import Derived.OneCell
import Derived.Deep.DeepCutAuto
import Derived.BigRegion
import Derived.Deep.RegionLaw
import Derived.Deep.LoopGhost
namespace Go.Proofs.YtepinmeidjlmmaaDoor
open Go.RowKit

structure Tabs (w : World) : Prop where
  tz : TzTab w
  u8 : U8Tab w
theorem Tabs.below {B : Nat} {w w' : World} (h : Tabs w) (hb : Below B w w') (hB : 4 ≤ B) : Tabs w' := ⟨h.tz.below hb hB, h.u8.below hb hB⟩
theorem Tabs.later {w w' : World} (h : Tabs w) (hb : Below w.heap.size w w') : Tabs w' := h.below hb h.tz.hs

theorem lt_of_heap {W : World} {i : Nat} {o : Obj} (h : W.heap[i]? = some o) : i < W.heap.size := by
  rcases Nat.lt_or_ge i W.heap.size with h' | h'
  · exact h'
  · rw [Array.getElem?_eq_none h'] at h; cases h
theorem nestAt.later {w w' : World} {base b c : Nat} {s : List Lv} {v : Value} (h : nestAt w base b c s v) (hb : Below w.heap.size w w') : nestAt w' base b c s v :=
  have hlt : b < w.heap.size := Nat.lt_of_lt_of_le h.lt h.hb
  ⟨(hb.cell (p := ⟨b, 0, none⟩) hlt).trans h.cnt, (hb.cell (p := ⟨b, 1, none⟩) hlt).trans h.lv, (hb.frozen (p := ⟨b, 0, none⟩) hlt).trans h.fr0, (hb.frozen (p := ⟨b, 1, none⟩) hlt).trans h.fr1, own_below h.own hb, h.lt, Nat.le_trans h.hb hb.size, h.len, h.c512, h.ok⟩

def contentE (s : List Lv) (k n : Int) (d : ByteArray) : Int :=
  if k = 4 ∧ Lib.validD d.data.toList = false then 6 else
  match s with
  | [] => 0
  | t :: _ => if atKeyB s = true ∧ t.lk ≠ 0 ∧ 0 ≤ cmpEnc (encItem t.lk t.ln t.ld) (encItem k n d) then 7 else 0
theorem content6 {s : List Lv} {k n : Int} {d : ByteArray} (h : k = 4) (h2 : Lib.validD d.data.toList = false) : contentE s k n d = 6 := by unfold contentE; rw [if_pos ⟨h, h2⟩]
theorem content_nokey {s : List Lv} {k n : Int} {d : ByteArray} (h : ¬ (k = 4 ∧ Lib.validD d.data.toList = false)) (h2 : atKeyB s = false) : contentE s k n d = 0 := by
  unfold contentE; rw [if_neg h]
  cases s with
  | nil => rfl
  | cons t r => simp [h2]
theorem content_key {t : Lv} {r : List Lv} {k n : Int} {d : ByteArray} (h : ¬ (k = 4 ∧ Lib.validD d.data.toList = false)) (h2 : atKeyB (t :: r) = true) :
    contentE (t :: r) k n d = if t.lk ≠ 0 ∧ 0 ≤ cmpEnc (encItem t.lk t.ln t.ld) (encItem k n d) then 7 else 0 := by
  unfold contentE; rw [if_neg h]; simp [h2]

/-- what the condition about keys reads -/
def KeyS (B base b c : Nat) (s : List Lv) (v : Value) (k n : Int) (d : ByteArray) (W : World) : Prop :=
  nestAt W base b c s v ∧ Tabs W ∧ W.heap[B]? = some (.cells (itemCs k n d) 58 (0, 0)) ∧ W.cell? ⟨B, 0, none⟩ = some (.int .i64 k) ∧ W.cell? ⟨B, 1, none⟩ = some (.int .u64 n) ∧ W.cell? ⟨B, 2, none⟩ = some (.string d)
theorem KeyS.mk' {B base b c : Nat} {s : List Lv} {v : Value} {k n : Int} {d : ByteArray} {W : World} (h : nestAt W base b c s v) (t : Tabs W) (hB : W.heap[B]? = some (.cells (itemCs k n d) 58 (0, 0))) : KeyS B base b c s v k n d W :=
  ⟨h, t, hB, cell_of_block hB rfl, cell_of_block hB rfl, cell_of_block hB rfl⟩
theorem KeyS.step {B base b c : Nat} {s : List Lv} {v : Value} {k n : Int} {d : ByteArray} {W W' : World} (h : KeyS B base b c s v k n d W) (hb : Below W.heap.size W W') : KeyS B base b c s v k n d W' :=
  KeyS.mk' (h.1.later hb) (h.2.1.later hb) ((hb.block _ (lt_of_heap h.2.2.1)).trans h.2.2.1)
/-- and the innermost level -/
def TopS (B base b c g : Nat) (t : Lv) (r : List Lv) (v : Value) (k n : Int) (d : ByteArray) (W : World) : Prop :=
  nestAt W base b c (t :: r) v ∧ Tabs W ∧ W.heap[B]? = some (.cells (itemCs k n d) 58 (0, 0)) ∧ W.cell? ⟨B, 0, none⟩ = some (.int .i64 k) ∧ W.cell? ⟨B, 1, none⟩ = some (.int .u64 n) ∧ W.cell? ⟨B, 2, none⟩ = some (.string d) ∧
  W.cell? ⟨g, r.length * 5 + 2, none⟩ = some (.int .i64 t.lk) ∧ W.cell? ⟨g, r.length * 5 + 3, none⟩ = some (.int .u64 t.ln) ∧ W.cell? ⟨g, r.length * 5 + 4, none⟩ = some (.string t.ld)
theorem TopS.mk' {B base b c g cap : Nat} {t : Lv} {r : List Lv} {k n : Int} {d : ByteArray} {W : World} (h : nestAt W base b c (t :: r) (.slice (some ⟨g, 0, none⟩) (r.length + 1) cap)) (T : Tabs W) (hB : W.heap[B]? = some (.cells (itemCs k n d) 58 (0, 0))) :
    TopS B base b c g t r (.slice (some ⟨g, 0, none⟩) (r.length + 1) cap) k n d W := by
  obtain ⟨g2, cap2, e, _, _, _, c2, c3, c4, _⟩ := nest_top h
  cases e
  exact ⟨h, T, hB, cell_of_block hB rfl, cell_of_block hB rfl, cell_of_block hB rfl, c2, c3, c4⟩
theorem TopS.step {B base b c g cap : Nat} {t : Lv} {r : List Lv} {k n : Int} {d : ByteArray} {W W' : World} (h : TopS B base b c g t r (.slice (some ⟨g, 0, none⟩) (r.length + 1) cap) k n d W) (hb : Below W.heap.size W W') :
    TopS B base b c g t r (.slice (some ⟨g, 0, none⟩) (r.length + 1) cap) k n d W' :=
  TopS.mk' (h.1.later hb) (h.2.1.later hb) ((hb.block _ (lt_of_heap h.2.2.1)).trans h.2.2.1)

theorem atKey_t {base b c : Nat} {s : List Lv} {v : Value} {w : World} {x : Bool} (h : nestAt w base b c s v) (hx : atKeyB s = x) :
    Calls Tryd.prog 59 #[.pointer (some ⟨b, 0, none⟩)] w fun e w' => e = .returned (.bool x) ∧ ∃ m, w' = w.drewN m := by
  rw [← hx]; exact atKey_any w h

set_option maxRecDepth 100000 in
set_option maxHeartbeats 1000000 in
/-- behind the first condition: the order of keys -/
theorem content_any {base b c : Nat} {s : List Lv} {v : Value} (k n : Int) (d : ByteArray) (w : World) (h : nestAt w base b c s v) (ht : Tabs w) (hn0 : 0 ≤ n) (hk0 : 1 ≤ k) (hk1 : k ≤ 8) (h7 : k = 7 → n ≤ 1) (hd : d.size ≤ 1100) :
    Calls Tryd.prog 58 #[.pointer (some ⟨b, 0, none⟩), itemV k n d] w fun e w' => e = .returned (.int .i64 (contentE s k n d)) ∧ Below w.heap.size w w' := by
  have H := Lib.hid h
  have HT := Lib.hid ht
  have hb0 : Below w.heap.size w (w.alloc (.cells #[.int .i64 k, .int .u64 n, .string d] 58)) := (Below.refl _ w).alloc (Nat.le_refl _) _
  have HB := Lib.hid hb0
  clear h ht hb0
  unfold itemV
  by_cases h6 : k = 4 ∧ Lib.validD d.data.toList = false
  · obtain ⟨hk, hv⟩ := h6
    subst hk
    have HV := Lib.hid hv
    rw [content6 rfl hv]
    clear hv h7
    go_enter Tryd.func58, Tryd.ntmps58
    go_wp2_with (go_at_call 69; refine (valid_any d _ (by omega) (by exact (HT.out.later HB.out).u8)).mono ?_; rw [HV.out]; rintro e w1 ⟨rfl, hb1⟩)
    go_ret
    exact ⟨rfl, HB.out.trans (hb1.mono HB.out.size)⟩
  · by_cases hA : atKeyB s = true
    · match s, hA with
      | t :: r, hA =>
        obtain ⟨g, cap, rfl, _⟩ := nest_top H.out
        have hl := H.out.len
        simp at hl
        obtain ⟨_, _, ok3, ok4, ok5⟩ := H.out.ok t (by simp)
        rw [content_key h6 hA]
        have HA := Lib.hid hA
        clear hA
        by_cases hlk : t.lk = 0
        · have hlb : (t.lk != 0) = false := by simp [hlk]
          rw [if_neg (by simp [hlk])]
          clear hlk ok3 ok4 ok5
          by_cases hk4 : k = 4
          · subst hk4
            have hv : Lib.validD d.data.toList = true := by simpa using h6
            have HV := Lib.hid hv
            clear hv h6 h7
            go_enter Tryd.func58, Tryd.ntmps58
            go_wp2_with (go_at_call 69; refine (valid_any d _ (by omega) (by exact (HT.out.later HB.out).u8)).mono ?_; rw [HV.out]; rintro e w1 ⟨rfl, hb1⟩)
            have hb2 := HB.out.trans (hb1.mono HB.out.size)
            have hN := H.out.later hb2
            have AK := Lib.hid (fun n => atKey_t (hN.later (below_drewN (Below.refl _ _) n)) HA.out)
            have TC := Lib.hid (fun n => top_cell _ (hN.later (below_drewN (Below.refl _ _) n)).lv hl)
            obtain ⟨g2, cap2, e2, _, _, _, c2, _⟩ := nest_top hN
            cases e2
            have HN := Lib.hid hN
            clear hN
            go_quiet ((first | (go_at_call 59; exact Calls.quiet_of (AK.out _)) | (go_at_call 60; exact Calls.quiet_of (TC.out _))))
            go_wp2
            go_ret
            exact ⟨rfl, below_drewN hb2 _⟩
          · have hkb : (k == 4) = false := by simpa using hk4
            clear h6 h7 hk4
            go_enter Tryd.func58, Tryd.ntmps58
            go_wp2_with fail
            have hN := H.out.later HB.out
            have AK := Lib.hid (fun n => atKey_t (hN.later (below_drewN (Below.refl _ _) n)) HA.out)
            have TC := Lib.hid (fun n => top_cell _ (hN.later (below_drewN (Below.refl _ _) n)).lv hl)
            obtain ⟨g2, cap2, e2, _, _, _, c2, _⟩ := nest_top hN
            cases e2
            have HN := Lib.hid hN
            clear hN
            go_quiet ((first | (go_at_call 59; exact Calls.quiet_of (AK.out _)) | (go_at_call 60; exact Calls.quiet_of (TC.out _))))
            go_wp2
            go_ret
            exact ⟨rfl, below_drewN HB.out _⟩
        · have hlb : (t.lk != 0) = true := by simpa using hlk
          have HC := Lib.hid (fun (W : World) (hW : Tabs W) => cmpEnc_any t.lk t.ln t.ld k n d W hW.tz ok4 (by omega) (by omega) (by omega) (by omega) hn0 hk0 hk1 h7 hd)
          clear ok3 ok4 ok5
          by_cases hk4 : k = 4
          · subst hk4
            have hv : Lib.validD d.data.toList = true := by simpa using h6
            have HV := Lib.hid hv
            clear hv h6 h7
            go_enter Tryd.func58, Tryd.ntmps58
            go_wp2_with (go_at_call 69; refine (valid_any d _ (by omega) (by exact (HT.out.later HB.out).u8)).mono ?_; rw [HV.out]; rintro e w1 ⟨rfl, hb1⟩)
            have hb2 := HB.out.trans (hb1.mono HB.out.size)
            have S0 := TopS.mk' (H.out.later hb2) (HT.out.later hb2) ((hb1.block _ (by simp)).trans (heap_new w (.cells (itemCs 4 n d) 58)))
            have HS0 := Lib.hid S0
            clear S0
            go_region_held3 (fun W => nestAt W base b c (t :: r) (.slice (some ⟨g, 0, none⟩) (r.length + 1) cap) ∧ Tabs W ∧ W.heap[w.heap.size]? = some (.cells (itemCs 4 n d) 58 (0, 0)) ∧ W.cell? ⟨w.heap.size, 0, none⟩ = some (.int .i64 4) ∧ W.cell? ⟨w.heap.size, 1, none⟩ = some (.int .u64 n) ∧ W.cell? ⟨w.heap.size, 2, none⟩ = some (.string d) ∧ W.cell? ⟨g, r.length * 5 + 2, none⟩ = some (.int .i64 t.lk) ∧ W.cell? ⟨g, r.length * 5 + 3, none⟩ = some (.int .u64 t.ln) ∧ W.cell? ⟨g, r.length * 5 + 4, none⟩ = some (.string t.ld))
              (first | (exact TopS.step HS0.out (Below.refl _ _).drew) | (exact TopS.step (by assumption) (below_drewN (Below.refl _ _) _)) | (exact TopS.step (by assumption) (by assumption)))
              (first | (go_at_call 59; refine (atKey_any _ (And.left (by assumption))).mono ?_; rw [HA.out]; rintro e w2 ⟨rfl, m, rfl⟩) | (go_at_call 60; refine (top_cell _ (by exact (And.left (by assumption : TopS w.heap.size base b c g t r (.slice (some ⟨g, 0, none⟩) (r.length + 1) cap) 4 n d _)).lv) hl).mono ?_; rintro e w2 ⟨rfl, m, rfl⟩) | (go_at_call 79; refine (HC.out _ (And.left (And.right (by assumption)))).mono ?_; rintro e w3 ⟨rfl, hb3⟩))
            have hb4 := (below_drewN hb2 _).trans (hb3.mono hb2.size)
            by_cases hcm : 0 ≤ cmpEnc (encItem t.lk t.ln t.ld) (encItem 4 n d)
            · go_wp2
              go_ret
              exact ⟨rfl, hb4⟩
            · go_wp2
              go_ret
              exact ⟨rfl, hb4⟩
          · have hkb : (k == 4) = false := by simpa using hk4
            clear h6 h7 hk4
            go_enter Tryd.func58, Tryd.ntmps58
            go_wp2_with fail
            have S0 := TopS.mk' (H.out.later HB.out) (HT.out.later HB.out) (heap_new w (.cells (itemCs k n d) 58))
            have HS0 := Lib.hid S0
            clear S0
            go_region_held3 (fun W => nestAt W base b c (t :: r) (.slice (some ⟨g, 0, none⟩) (r.length + 1) cap) ∧ Tabs W ∧ W.heap[w.heap.size]? = some (.cells (itemCs k n d) 58 (0, 0)) ∧ W.cell? ⟨w.heap.size, 0, none⟩ = some (.int .i64 k) ∧ W.cell? ⟨w.heap.size, 1, none⟩ = some (.int .u64 n) ∧ W.cell? ⟨w.heap.size, 2, none⟩ = some (.string d) ∧ W.cell? ⟨g, r.length * 5 + 2, none⟩ = some (.int .i64 t.lk) ∧ W.cell? ⟨g, r.length * 5 + 3, none⟩ = some (.int .u64 t.ln) ∧ W.cell? ⟨g, r.length * 5 + 4, none⟩ = some (.string t.ld))
              (first | (exact TopS.step HS0.out (Below.refl _ _).drew) | (exact TopS.step (by assumption) (below_drewN (Below.refl _ _) _)) | (exact TopS.step (by assumption) (by assumption)))
              (first | (go_at_call 59; refine (atKey_any _ (And.left (by assumption))).mono ?_; rw [HA.out]; rintro e w2 ⟨rfl, m, rfl⟩) | (go_at_call 60; refine (top_cell _ (by exact (And.left (by assumption : TopS w.heap.size base b c g t r (.slice (some ⟨g, 0, none⟩) (r.length + 1) cap) k n d _)).lv) hl).mono ?_; rintro e w2 ⟨rfl, m, rfl⟩) | (go_at_call 79; refine (HC.out _ (And.left (And.right (by assumption)))).mono ?_; rintro e w3 ⟨rfl, hb3⟩))
            have hb4 := (below_drewN HB.out _).trans (hb3.mono HB.out.size)
            by_cases hcm : 0 ≤ cmpEnc (encItem t.lk t.ln t.ld) (encItem k n d)
            · go_wp2
              go_ret
              exact ⟨rfl, hb4⟩
            · go_wp2
              go_ret
              exact ⟨rfl, hb4⟩
    · have hA2 : atKeyB s = false := by simpa using hA
      rw [content_nokey h6 hA2]
      have HA := Lib.hid hA2
      clear hA hA2
      by_cases hk4 : k = 4
      · subst hk4
        have hv : Lib.validD d.data.toList = true := by simpa using h6
        have HV := Lib.hid hv
        clear hv h6 h7
        go_enter Tryd.func58, Tryd.ntmps58
        go_wp2_with (go_at_call 69; refine (valid_any d _ (by omega) (by exact (HT.out.later HB.out).u8)).mono ?_; rw [HV.out]; rintro e w1 ⟨rfl, hb1⟩)
        have hb2 := HB.out.trans (hb1.mono HB.out.size)
        have hN := H.out.later hb2
        have AK := Lib.hid (fun n => atKey_t (hN.later (below_drewN (Below.refl _ _) n)) HA.out)
        have HN := Lib.hid hN
        clear hN
        go_quiet ((go_at_call 59; exact Calls.quiet_of (AK.out _)))
        go_wp2
        go_ret
        exact ⟨rfl, below_drewN hb2 _⟩
      · have hkb : (k == 4) = false := by simpa using hk4
        clear h6 h7 hk4
        go_enter Tryd.func58, Tryd.ntmps58
        go_wp2_with fail
        have hN := H.out.later HB.out
        have AK := Lib.hid (fun n => atKey_t (hN.later (below_drewN (Below.refl _ _) n)) HA.out)
        have HN := Lib.hid hN
        clear hN
        go_quiet ((go_at_call 59; exact Calls.quiet_of (AK.out _)))
        go_wp2
        go_ret
        exact ⟨rfl, below_drewN HB.out _⟩
end Go.Proofs.YtepinmeidjlmmaaDoor

namespace Go.Proofs.YtepinmeidjlmmaaDoor
open Go.RowKit

def checkE (c : Nat) (s : List Lv) (k n : Int) (d : ByteArray) : Int :=
  if compB c s = true then 2 else if placeE c s k ≠ 0 then placeE c s k else if shapeB k n d = false then 4 else if tooLargeB k (argN k n d) = true then 8 else contentE s k n d
theorem check2 {c : Nat} {s : List Lv} {k n : Int} {d : ByteArray} (h : compB c s = true) : checkE c s k n d = 2 := by unfold checkE; rw [if_pos h]
theorem checkP {c : Nat} {s : List Lv} {k n : Int} {d : ByteArray} (h : compB c s = false) (h2 : placeE c s k ≠ 0) : checkE c s k n d = placeE c s k := by unfold checkE; rw [if_neg (by simp [h]), if_pos h2]
theorem check4 {c : Nat} {s : List Lv} {k n : Int} {d : ByteArray} (h : compB c s = false) (h2 : placeE c s k = 0) (h3 : shapeB k n d = false) : checkE c s k n d = 4 := by unfold checkE; rw [if_neg (by simp [h]), if_neg (by simp [h2]), if_pos h3]
theorem check8 {c : Nat} {s : List Lv} {k n : Int} {d : ByteArray} (h : compB c s = false) (h2 : placeE c s k = 0) (h3 : shapeB k n d = true) (h4 : tooLargeB k (argN k n d) = true) : checkE c s k n d = 8 := by
  unfold checkE; rw [if_neg (by simp [h]), if_neg (by simp [h2]), if_neg (by simp [h3]), if_pos h4]
theorem checkC {c : Nat} {s : List Lv} {k n : Int} {d : ByteArray} (h : compB c s = false) (h2 : placeE c s k = 0) (h3 : shapeB k n d = true) (h4 : tooLargeB k (argN k n d) = false) : checkE c s k n d = contentE s k n d := by
  unfold checkE; rw [if_neg (by simp [h]), if_neg (by simp [h2]), if_neg (by simp [h3]), if_neg (by simp [h4])]
theorem place_kind {c : Nat} {s : List Lv} {k : Int} (h : placeE c s k = 0) : c < 512 ∧ 1 ≤ k ∧ k ≤ 8 := by
  unfold placeE at h
  by_cases h1 : 512 ≤ c
  · rw [if_pos h1] at h; omega
  rw [if_neg h1] at h
  by_cases h2 : k < 1 ∨ 8 < k
  · rw [if_pos h2] at h; omega
  · omega
theorem size_of_empty {d : ByteArray} (h : d.toList.isEmpty = true) : d.size = 0 := by
  have h2 : d.data.toList = [] := by
    have e : d.toList = d.data.toList := Lib.toList_data d
    rw [e] at h
    simpa using h
  have := congrArg List.length h2
  simpa using this
/-- what an item without errors of its own is like -/
theorem sound_item {k n : Int} {d : ByteArray} (h3 : shapeB k n d = true) (h4 : tooLargeB k (argN k n d) = false) (h0 : 1 ≤ k) : (k = 7 → n ≤ 1) ∧ d.size ≤ 1024 := by
  by_cases hd : hasDataB k = true
  · refine ⟨fun h7 => (by subst h7; cases hd), ?_⟩
    unfold tooLargeB argN at h4
    simp [hd] at h4
    omega
  · have hd2 : hasDataB k = false := by simpa using hd
    have he : d.toList.isEmpty = true := by
      cases he : d.toList.isEmpty with
      | true => rfl
      | false => rw [shape_bad he hd2] at h3; cases h3
    refine ⟨fun h7 => ?_, by rw [size_of_empty he]; omega⟩
    rw [shape_sw (by simp [he])] at h3
    subst h7
    simpa using h3

def BoxS (B : Nat) (k n : Int) (d : ByteArray) (W : World) : Prop :=
  W.heap[B]? = some (.cells (itemCs k n d) 58 (0, 0)) ∧ W.cell? ⟨B, 0, none⟩ = some (.int .i64 k) ∧ W.cell? ⟨B, 1, none⟩ = some (.int .u64 n) ∧ W.cell? ⟨B, 2, none⟩ = some (.string d)
theorem BoxS.mk' {B : Nat} {k n : Int} {d : ByteArray} {W : World} (hB : W.heap[B]? = some (.cells (itemCs k n d) 58 (0, 0))) : BoxS B k n d W := ⟨hB, cell_of_block hB rfl, cell_of_block hB rfl, cell_of_block hB rfl⟩
theorem BoxS.step {B : Nat} {k n : Int} {d : ByteArray} {W W' : World} (h : BoxS B k n d W) (hb : Below W.heap.size W W') : BoxS B k n d W' := BoxS.mk' ((hb.block _ (lt_of_heap h.1)).trans h.1)

set_option maxRecDepth 100000 in
set_option maxHeartbeats 1000000 in
theorem check_any {base b c : Nat} {s : List Lv} {v : Value} (k n : Int) (d : ByteArray) (w : World) (h : nestAt w base b c s v) (ht : Tabs w) (hn0 : 0 ≤ n) (hd : d.size ≤ maxLen) :
    Calls Tryd.prog 39 #[.pointer (some ⟨b, 0, none⟩), itemV k n d] w fun e w' => e = .returned (.int .i64 (checkE c s k n d)) ∧ Below w.heap.size w w' := by
  have H := Lib.hid h
  have HT := Lib.hid ht
  have HB := Lib.hid ((Below.refl _ w).alloc (Nat.le_refl _) (.cells #[.int .i64 k, .int .u64 n, .string d] 58))
  have hN := h.later HB.out
  have HN := Lib.hid hN
  clear h ht hN
  by_cases hA : compB c s = true
  · rw [check2 hA]
    go_enter Tryd.func39, Tryd.ntmps39
    go_wp2_with (go_at_call 41; refine (complete_any _ HN.out).mono ?_; rintro e w1 ⟨rfl, rfl⟩)
    go_ret
    exact ⟨rfl, HB.out⟩
  have hA2 : compB c s = false := by simpa using hA
  clear hA
  by_cases hP : placeE c s k = 0
  · obtain ⟨hc, hk0, hk8⟩ := place_kind hP
    have hpb : (placeE c s k != 0) = false := by simp [hP]
    by_cases hS : shapeB k n d = true
    · have X := sound_item hS (k := k) (n := n) (d := d)
      by_cases hL : tooLargeB k (argN k n d) = true
      · rw [check8 hA2 hP hS hL]
        go_enter Tryd.func39, Tryd.ntmps39
        go_wp2_with (first | (go_at_call 41; refine (complete_any _ HN.out).mono ?_; rintro e w1 ⟨rfl, rfl⟩) | (go_at_call 55; refine (place_any _ _ HN.out).mono ?_; rintro e w1 ⟨rfl, m, rfl⟩) | (go_at_call 56; refine (shape_any _ _ _ _).mono ?_; rintro e w1 ⟨rfl, rfl⟩))
        have hb1 := (below_drewN HB.out m).alloc HB.out.size (.cells #[.int .i64 k, .int .u64 n, .string d] 58)
        have S0 := BoxS.step (W' := ((w.alloc (.cells #[.int .i64 k, .int .u64 n, .string d] 58)).drewN m).alloc (.cells #[.int .i64 k, .int .u64 n, .string d] 58)) (BoxS.mk' (heap_new w (.cells #[.int .i64 k, .int .u64 n, .string d] 58))) ((below_drewN (Below.refl _ (w.alloc (.cells #[.int .i64 k, .int .u64 n, .string d] 58))) m).alloc (Nat.le_refl _) _)
        have HS0 := Lib.hid S0
        clear S0
        go_region_held3 (fun W => W.heap[w.heap.size]? = some (.cells (itemCs k n d) 58 (0, 0)) ∧ W.cell? ⟨w.heap.size, 0, none⟩ = some (.int .i64 k) ∧ W.cell? ⟨w.heap.size, 1, none⟩ = some (.int .u64 n) ∧ W.cell? ⟨w.heap.size, 2, none⟩ = some (.string d))
          (first | (exact BoxS.step HS0.out (Below.refl _ _).drew) | (exact BoxS.step (by assumption) ((Below.refl _ _).alloc (Nat.le_refl _) _)) | (exact BoxS.step (by assumption) ((Below.refl _ _).alloc (Nat.le_refl _) _).drew) | (exact BoxS.step (by assumption) (Below.refl _ _)))
          (first | (go_at_call 53; refine (argument_any _ _ _ _ hd).mono ?_; rintro e w2 ⟨rfl, rfl⟩) | (go_at_call 57; refine (tooLarge_any _ _ _).mono ?_; rintro e w2 ⟨rfl, rfl⟩))
        go_wp2
        go_ret
        exact ⟨rfl, (hb1.alloc hb1.size _).drew⟩
      · have hL2 : tooLargeB k (argN k n d) = false := by simpa using hL
        obtain ⟨h7, hd2⟩ := X hL2 hk0
        clear hL X
        rw [checkC hA2 hP hS hL2]
        have H7 := Lib.hid h7
        clear h7
        go_enter Tryd.func39, Tryd.ntmps39
        go_wp2_with (first | (go_at_call 41; refine (complete_any _ HN.out).mono ?_; rintro e w1 ⟨rfl, rfl⟩) | (go_at_call 55; refine (place_any _ _ HN.out).mono ?_; rintro e w1 ⟨rfl, m, rfl⟩) | (go_at_call 56; refine (shape_any _ _ _ _).mono ?_; rintro e w1 ⟨rfl, rfl⟩))
        have hb1 := (below_drewN HB.out m).alloc HB.out.size (.cells #[.int .i64 k, .int .u64 n, .string d] 58)
        have S0 := BoxS.step (W' := ((w.alloc (.cells #[.int .i64 k, .int .u64 n, .string d] 58)).drewN m).alloc (.cells #[.int .i64 k, .int .u64 n, .string d] 58)) (BoxS.mk' (heap_new w (.cells #[.int .i64 k, .int .u64 n, .string d] 58))) ((below_drewN (Below.refl _ (w.alloc (.cells #[.int .i64 k, .int .u64 n, .string d] 58))) m).alloc (Nat.le_refl _) _)
        have HS0 := Lib.hid S0
        clear S0
        go_region_held3 (fun W => W.heap[w.heap.size]? = some (.cells (itemCs k n d) 58 (0, 0)) ∧ W.cell? ⟨w.heap.size, 0, none⟩ = some (.int .i64 k) ∧ W.cell? ⟨w.heap.size, 1, none⟩ = some (.int .u64 n) ∧ W.cell? ⟨w.heap.size, 2, none⟩ = some (.string d))
          (first | (exact BoxS.step HS0.out (Below.refl _ _).drew) | (exact BoxS.step (by assumption) ((Below.refl _ _).alloc (Nat.le_refl _) _)) | (exact BoxS.step (by assumption) ((Below.refl _ _).alloc (Nat.le_refl _) _).drew) | (exact BoxS.step (by assumption) (Below.refl _ _)))
          (first | (go_at_call 53; refine (argument_any _ _ _ _ hd).mono ?_; rintro e w2 ⟨rfl, rfl⟩) | (go_at_call 57; refine (tooLarge_any _ _ _).mono ?_; rintro e w2 ⟨rfl, rfl⟩))
        go_split_ands
        go_wp2_with (go_at_call 58; refine (content_any _ _ _ _ (by exact H.out.later (hb1.alloc hb1.size _).drew) (by exact HT.out.later (hb1.alloc hb1.size _).drew) hn0 hk0 hk8 H7.out (by omega)).mono ?_; rintro e w3 ⟨rfl, hb3⟩)
        go_ret
        exact ⟨rfl, (hb1.alloc hb1.size _).drew.trans (hb3.mono (hb1.alloc hb1.size _).drew.size)⟩
    · have hS2 : shapeB k n d = false := by simpa using hS
      clear hS
      rw [check4 hA2 hP hS2]
      go_enter Tryd.func39, Tryd.ntmps39
      go_wp2_with (first | (go_at_call 41; refine (complete_any _ HN.out).mono ?_; rintro e w1 ⟨rfl, rfl⟩) | (go_at_call 55; refine (place_any _ _ HN.out).mono ?_; rintro e w1 ⟨rfl, m, rfl⟩) | (go_at_call 56; refine (shape_any _ _ _ _).mono ?_; rintro e w1 ⟨rfl, rfl⟩))
      go_ret
      exact ⟨rfl, (below_drewN HB.out _).alloc HB.out.size _⟩
  · have hpb : (placeE c s k != 0) = true := by simpa using hP
    rw [checkP hA2 hP]
    clear hP
    go_enter Tryd.func39, Tryd.ntmps39
    go_wp2_with (first | (go_at_call 41; refine (complete_any _ HN.out).mono ?_; rintro e w1 ⟨rfl, rfl⟩) | (go_at_call 55; refine (place_any _ _ HN.out).mono ?_; rintro e w1 ⟨rfl, m, rfl⟩))
    go_ret
    exact ⟨rfl, below_drewN HB.out _⟩
end Go.Proofs.YtepinmeidjlmmaaDoor

namespace Go.Proofs.YtepinmeidjlmmaaDoor
open Go.RowKit

/-- what 'enter' may change: the first two cells of block b, rows of levels, new blocks -/
structure NF (b : Nat) (w w' : World) : Prop where
  os : w'.os = w.os
  tape : w'.tape = w.tape
  output : w'.output = w.output
  size : w.heap.size ≤ w'.heap.size
  block : ∀ k, k < w.heap.size → k ≠ b → (∀ cur fr, w.heap[k]? ≠ some (.cells cur 100 fr)) → w'.heap[k]? = w.heap[k]?
  low : ∀ k, k < b → w'.heap[k]? = w.heap[k]?
  cell : ∀ j, 2 ≤ j → w'.cell? ⟨b, j, none⟩ = w.cell? ⟨b, j, none⟩
  frz : ∀ j, w'.frozen? ⟨b, j, none⟩ = w.frozen? ⟨b, j, none⟩
theorem NF.refl (b : Nat) (w : World) : NF b w w := ⟨rfl, rfl, rfl, Nat.le_refl _, fun _ _ _ _ => rfl, fun _ _ => rfl, fun _ _ => rfl, fun _ => rfl⟩
theorem NF.trans {b : Nat} {w1 w2 w3 : World} (h : NF b w1 w2) (k : NF b w2 w3) : NF b w1 w3 :=
  ⟨k.os.trans h.os, k.tape.trans h.tape, k.output.trans h.output, Nat.le_trans h.size k.size, fun i hi hb hn => by
    have e := h.block i hi hb hn
    rw [k.block i (Nat.lt_of_lt_of_le hi h.size) hb (by rw [e]; exact hn), e], fun i hi => (k.low i hi).trans (h.low i hi), fun j hj => (k.cell j hj).trans (h.cell j hj), fun j => (k.frz j).trans (h.frz j)⟩
theorem NF.of_below {b : Nat} {w w' : World} (hb : Below w.heap.size w w') (hlt : b < w.heap.size) : NF b w w' :=
  ⟨hb.os, hb.tape, hb.output, hb.size, fun k hk _ _ => hb.block k hk, fun k hk => hb.block k (by omega), fun j _ => hb.cell (p := ⟨b, j, none⟩) hlt, fun j => hb.frozen (p := ⟨b, j, none⟩) hlt⟩
theorem NF.setB (w : World) (b j : Nat) (u : Value) (hj : j < 2) : NF b w (w.setCell ⟨b, j, none⟩ u) :=
  ⟨rfl, rfl, rfl, by simp, fun k _ hk _ => heap_setCell_other w _ k u hk, fun k hk => heap_setCell_other w _ k u (by simp; omega), fun i hi => World.cell?_setCell_other _ _ _ _ (by simp <;> omega), fun i => World.frozen?_setCell _ _ _ _⟩
theorem NF.setRow {w : World} {b g : Nat} {cur : Array Value} {fr : Nat × Nat} (hg : w.heap[g]? = some (.cells cur 100 fr)) (hgb : b < g) (j : Nat) (u : Value) : NF b w (w.setCell ⟨g, j, none⟩ u) :=
  ⟨rfl, rfl, rfl, by simp, fun k _ _ hn => heap_setCell_other w _ k u (fun e => hn cur fr (by simp at e; rw [e]; exact hg)), fun k hk => heap_setCell_other w _ k u (by simp; omega), fun i _ => World.cell?_setCell_other _ _ _ _ (by simp <;> omega), fun i => World.frozen?_setCell _ _ _ _⟩
theorem NF.grown {w w' : World} {b base size n : Nat} {v : Value} {xs : List Value} (hown : w.ownsRow base 100 size v n xs) (hg : w.grownBy w' v.ownBlock) (hb : b < base) (hlt : b < w.heap.size) : NF b w w' := by
  have hne : some b ≠ v.ownBlock := fun he => by have := (hown.lt b he.symm).1; omega
  exact ⟨hg.os, hg.tape, hg.output, hg.size, fun k hk _ hn => hg.block k hk (fun he => by
    obtain ⟨_, h2⟩ := hown
    rcases h2 with ⟨h0, _⟩ | ⟨g, cap, cur, hv, _, hh, _⟩
    · rw [h0] at he; cases he
    · rw [hv] at he; cases he; exact hn _ _ hh), fun k hk => hg.block k (by omega) (fun he => by have := (hown.lt k he.symm).1; omega), fun j _ => World.cell?_of_block (hg.block b hlt hne), fun j => World.frozen?_of_block (hg.block b hlt hne)⟩

theorem own_row100 {w : World} {base n g cap : Nat} {xs : List Value} (h : w.ownsRow base 100 5 (.slice (some ⟨g, 0, none⟩) n cap) n xs) : ∃ cur, w.heap[g]? = some (.cells cur 100 (0, 0)) := by
  rcases h.2 with ⟨h', _⟩ | ⟨g', cap', cur, h', _, hg, _⟩
  · cases h'
  · cases h'; exact ⟨cur, hg⟩

theorem nest_cnt {w : World} {base b c : Nat} {s : List Lv} {v : Value} (h : nestAt w base b c s v) (hc : c + 1 ≤ 600) : nestAt (w.setCell ⟨b, 0, none⟩ (.int .i64 ((c : Int) + 1))) base b (c + 1) s v :=
  ⟨by rw [World.cell?_setCell_same _ _ _ h.cnt]; simp, by rw [World.cell?_setCell_other _ _ _ _ (by simp)]; exact h.lv, by rw [World.frozen?_setCell]; exact h.fr0, by rw [World.frozen?_setCell]; exact h.fr1,
    ownsRow_setCell_below h.own h.lt _, h.lt, by simpa using h.hb, h.len, hc, h.ok⟩
/-- the slice of levels is another one -/
theorem nest_lv {w : World} {base b c : Nat} {s s' : List Lv} {v v' : Value} (h : nestAt w base b c s v) (ho : w.ownsRow base 100 5 v' s'.length (stCells s')) (hl : s'.length ≤ 20)
    (hok : ∀ l ∈ s', 0 ≤ l.mi ∧ l.mi ≤ 1024 ∧ l.ld.size ≤ 1024 ∧ 0 ≤ l.ln ∧ (l.lk = 0 ∨ l.lk = 1 ∨ l.lk = 2 ∨ l.lk = 4)) : nestAt (w.setCell ⟨b, 1, none⟩ v') base b c s' v' :=
  ⟨by rw [World.cell?_setCell_other _ _ _ _ (by simp)]; exact h.cnt, World.cell?_setCell_same _ _ _ h.lv, by rw [World.frozen?_setCell]; exact h.fr0, by rw [World.frozen?_setCell]; exact h.fr1,
    ownsRow_setCell_below ho h.lt _, h.lt, by simpa using h.hb, hl, h.c512, hok⟩
theorem nest_grown {w w' : World} {base b c : Nat} {s : List Lv} {v : Value} (h : nestAt w base b c s v) (hg : w.grownBy w' v.ownBlock) (ho : w'.ownsRow base 100 5 v s.length (stCells s)) : nestAt w' base b c s v := by
  have hlt : b < w.heap.size := Nat.lt_of_lt_of_le h.lt h.hb
  have hne : some b ≠ v.ownBlock := fun he => by have := (h.own.lt b he.symm).1; have := h.lt; omega
  have hb := hg.block b hlt hne
  exact ⟨(World.cell?_of_block (a := ⟨b, 0, none⟩) hb).trans h.cnt, (World.cell?_of_block (a := ⟨b, 1, none⟩) hb).trans h.lv, (World.frozen?_of_block (a := ⟨b, 0, none⟩) hb).trans h.fr0, (World.frozen?_of_block (a := ⟨b, 1, none⟩) hb).trans h.fr1, ho, h.lt, Nat.le_trans h.hb hg.size, h.len, h.c512, h.ok⟩

def Lv.key (l : Lv) (k n : Int) (d : ByteArray) : Lv := { l with lk := k, ln := n, ld := d }
def Lv.less (l : Lv) : Lv := { l with mi := l.mi - 1 }

theorem set_end {α : Type} (a b : List α) (i : Nat) (u : α) (_ : i < b.length) : (a ++ b).set (a.length + i) u = a ++ b.set i u := by
  rw [List.set_append_right _ _ (by omega), Nat.add_sub_cancel_left]

theorem nest_less {w : World} {base b c g cap : Nat} {t : Lv} {r : List Lv} (h : nestAt w base b c (t :: r) (.slice (some ⟨g, 0, none⟩) (r.length + 1) cap)) (hmi : 1 ≤ t.mi) :
    nestAt (w.setCell ⟨g, r.length * 5 + 1, none⟩ (.int .u64 (t.mi - 1))) base b c (t.less :: r) (.slice (some ⟨g, 0, none⟩) (r.length + 1) cap) ∧ NF b w (w.setCell ⟨g, r.length * 5 + 1, none⟩ (.int .u64 (t.mi - 1))) := by
  have hgb : b < g := by have h1 := (h.own.lt g rfl).1; have h2 := h.lt; omega
  obtain ⟨cur, hrow⟩ := own_row100 h.own
  have hs := (World.ownsRow.stored h.own (r.length * 5 + 1) (.int .u64 (t.mi - 1))).1
  have e : (stCells (t :: r)).set (r.length * 5 + 1) (.int .u64 (t.mi - 1)) = stCells (t.less :: r) := by
    rw [stCells, ← stCells_len, set_end _ _ _ _ (by simp [Lv.cells])]; rfl
  rw [e] at hs
  refine ⟨⟨by rw [World.cell?_setCell_other _ _ _ _ (by simp <;> omega)]; exact h.cnt, by rw [World.cell?_setCell_other _ _ _ _ (by simp <;> omega)]; exact h.lv, by rw [World.frozen?_setCell]; exact h.fr0, by rw [World.frozen?_setCell]; exact h.fr1, hs, h.lt, by simpa using h.hb, h.len, h.c512, ?_⟩, NF.setRow hrow hgb _ _⟩
  intro l hl
  rcases List.mem_cons.1 hl with rfl | hl
  · have := h.ok t (by simp)
    simp only [Lv.less]; omega
  · exact h.ok l (List.mem_cons_of_mem _ hl)

theorem nest_key {w : World} {base b c g cap : Nat} {t : Lv} {r : List Lv} {k n : Int} {d : ByteArray} (h : nestAt w base b c (t :: r) (.slice (some ⟨g, 0, none⟩) (r.length + 1) cap)) (hk : k = 1 ∨ k = 2 ∨ k = 4) (hn : 0 ≤ n) (hd : d.size ≤ 1024) :
    nestAt (((w.setCell ⟨g, r.length * 5 + 2, none⟩ (.int .i64 k)).setCell ⟨g, r.length * 5 + 3, none⟩ (.int .u64 n)).setCell ⟨g, r.length * 5 + 4, none⟩ (.string d)) base b c (t.key k n d :: r) (.slice (some ⟨g, 0, none⟩) (r.length + 1) cap) ∧
    NF b w (((w.setCell ⟨g, r.length * 5 + 2, none⟩ (.int .i64 k)).setCell ⟨g, r.length * 5 + 3, none⟩ (.int .u64 n)).setCell ⟨g, r.length * 5 + 4, none⟩ (.string d)) := by
  have hgb : b < g := by have h1 := (h.own.lt g rfl).1; have h2 := h.lt; omega
  obtain ⟨cur, hrow⟩ := own_row100 h.own
  have s1 := (World.ownsRow.stored h.own (r.length * 5 + 2) (.int .i64 k)).1
  obtain ⟨cur1, hrow1⟩ := own_row100 s1
  have s2 := (World.ownsRow.stored s1 (r.length * 5 + 3) (.int .u64 n)).1
  obtain ⟨cur2, hrow2⟩ := own_row100 s2
  have s3 := (World.ownsRow.stored s2 (r.length * 5 + 4) (.string d)).1
  have e : (((stCells (t :: r)).set (r.length * 5 + 2) (.int .i64 k)).set (r.length * 5 + 3) (.int .u64 n)).set (r.length * 5 + 4) (.string d) = stCells (t.key k n d :: r) := by
    rw [stCells, ← stCells_len, set_end _ _ _ _ (by simp [Lv.cells]), set_end _ _ _ _ (by simp [Lv.cells]), set_end _ _ _ _ (by simp [Lv.cells])]; rfl
  rw [e] at s3
  have cc : ∀ i : Nat, (((w.setCell ⟨g, r.length * 5 + 2, none⟩ (.int .i64 k)).setCell ⟨g, r.length * 5 + 3, none⟩ (.int .u64 n)).setCell ⟨g, r.length * 5 + 4, none⟩ (.string d)).cell? ⟨b, i, none⟩ = w.cell? ⟨b, i, none⟩ := fun i => by
    rw [World.cell?_setCell_other _ _ _ _ (by simp <;> omega), World.cell?_setCell_other _ _ _ _ (by simp <;> omega), World.cell?_setCell_other _ _ _ _ (by simp <;> omega)]
  refine ⟨⟨(cc 0).trans h.cnt, (cc 1).trans h.lv, by simp only [World.frozen?_setCell]; exact h.fr0, by simp only [World.frozen?_setCell]; exact h.fr1, s3, h.lt, by simpa using h.hb, h.len, h.c512, ?_⟩, ((NF.setRow hrow hgb _ _).trans (NF.setRow hrow1 hgb _ _)).trans (NF.setRow hrow2 hgb _ _)⟩
  intro l hl
  rcases List.mem_cons.1 hl with rfl | hl
  · have := h.ok t (by simp)
    simp only [Lv.key]; omega
  · exact h.ok l (List.mem_cons_of_mem _ hl)

def popAll : List Lv → List Lv
  | [] => []
  | t :: r => if t.mi = 0 then popAll r else t :: r
def newLv (k n : Int) : Lv := { mp := k == 6, mi := partsN k n, lk := 0, ln := 0, ld := ⟨#[]⟩ }
theorem newLv_ok {k n : Int} (h : 0 < partsN k n) (h2 : partsN k n ≤ 1024) : 0 ≤ (newLv k n).mi ∧ (newLv k n).mi ≤ 1024 ∧ (newLv k n).ld.size ≤ 1024 ∧ 0 ≤ (newLv k n).ln ∧ ((newLv k n).lk = 0 ∨ (newLv k n).lk = 1 ∨ (newLv k n).lk = 2 ∨ (newLv k n).lk = 4) :=
  ⟨by show 0 ≤ partsN k n; omega, h2, Nat.zero_le _, Int.le_refl _, .inl rfl⟩
def pushed (s : List Lv) (k n : Int) : List Lv := if 0 < partsN k n then newLv k n :: s else s
def keyS (s : List Lv) (k n : Int) (d : ByteArray) : List Lv :=
  match s with
  | [] => []
  | t :: r => if atKeyB (t :: r) = true then t.key k n d :: r else t :: r
def lessS : List Lv → List Lv
  | [] => []
  | t :: r => t.less :: r
def enterS (s : List Lv) (k n : Int) (d : ByteArray) : List Lv := popAll (pushed (lessS (keyS s k n d)) k n)
theorem keyS_yes {t : Lv} {r : List Lv} {k n : Int} {d : ByteArray} (h : atKeyB (t :: r) = true) : keyS (t :: r) k n d = t.key k n d :: r := by simp [keyS, h]
theorem keyS_no {s : List Lv} {k n : Int} {d : ByteArray} (h : atKeyB s = false) : keyS s k n d = s := by cases s <;> simp [keyS, h]
theorem pushed_no {s : List Lv} {k n : Int} (h : ¬ 0 < partsN k n) : pushed s k n = s := by simp only [pushed]; rw [if_neg h]
theorem pushed_yes {s : List Lv} {k n : Int} (h : 0 < partsN k n) : pushed s k n = newLv k n :: s := by simp only [pushed]; rw [if_pos h]
theorem keyS_len (s : List Lv) (k n : Int) (d : ByteArray) : (keyS s k n d).length = s.length := by
  cases s with
  | nil => rfl
  | cons t r => simp only [keyS]; split <;> rfl
theorem lessS_len (s : List Lv) : (lessS s).length = s.length := by cases s <;> rfl
theorem keyS_mi {s : List Lv} {k n : Int} {d : ByteArray} (h : ∀ t r, s = t :: r → 1 ≤ t.mi) : ∀ t r, keyS s k n d = t :: r → 1 ≤ t.mi := by
  cases s with
  | nil => intro t r e; simp [keyS] at e
  | cons t r =>
    intro t2 r2 e
    have h1 := h t r rfl
    simp only [keyS] at e
    split at e
    · cases e; exact h1
    · cases e; exact h1

theorem info100 : (Tryd.prog.info? 100).map (fun i => (i.zero, i.size, i.bytes)) = some (some (.agg #[.bool false, .int .u64 0, .int .i64 0, .int .u64 0, .string ⟨#[]⟩]), 5, 48) := by kernel_rfl

/-- append(n.levels, l), as one step of a region -/
theorem step_push {ops : Array Oper} {o : Oper} {a : Act} {W : World} {K : Act → World → Prop} {Q : Exit → Act → World → Prop} {E : Prop} (hgd : o.guard = none) (s x : Operand)
    (hop : o.op = .call { callee := .builtin .append, args := #[s, x], argTypes := #[66, 66] })
    {base b c : Nat} {st : List Lv} {v : Value} (l : Lv) (hN : nestAt W base b c st v) (hs : a.eval s = v) (B : Nat) (hx : a.eval x = .slice (some ⟨B, 0, none⟩) 1 1)
    (hB : W.heap[B]? = some (.cells #[.bool l.mp, .int .u64 l.mi, .int .i64 l.lk, .int .u64 l.ln, .string l.ld] 100 (0, 0))) (hl : st.length + 1 ≤ 20)
    (hok : 0 ≤ l.mi ∧ l.mi ≤ 1024 ∧ l.ld.size ≤ 1024 ∧ 0 ≤ l.ln ∧ (l.lk = 0 ∨ l.lk = 1 ∨ l.lk = 2 ∨ l.lk = 4))
    (h : ∀ g' cap' w', w'.cell? ⟨b, 1, none⟩ = some v → w'.frozen? ⟨b, 1, none⟩ = false → NF b W (w'.setCell ⟨b, 1, none⟩ (.slice (some ⟨g', 0, none⟩) (st.length + 1) cap')) → nestAt (w'.setCell ⟨b, 1, none⟩ (.slice (some ⟨g', 0, none⟩) (st.length + 1) cap')) base b c (l :: st) (.slice (some ⟨g', 0, none⟩) (st.length + 1) cap') → W.heap.size ≤ w'.heap.size → (∀ k, k < W.heap.size → (∀ cur fr, W.heap[k]? ≠ some (.cells cur 100 fr)) → w'.heap[k]? = W.heap[k]?) → K (a.put o.dst (.slice (some ⟨g', 0, none⟩) (st.length + 1) cap')) w') :
    if Region.wanted o (yielded ops a.tmps) = true then Oper.wp Tryd.prog o a W K Q else E := by
  have hw : Region.wanted o (yielded ops a.tmps) = true := by simp [Region.wanted, hgd]
  rw [if_pos hw]
  obtain ⟨i0, hi, hz0, hz1, hz2⟩ := info_parts info100
  refine wp_append_own W s x 66 hop base 100 i0 _ 5 48 Tryd.underlying66 hi hz0 hz1 hz2 rfl (by decide) v st.length (stCells st) hs hN.own ⟨B, 0, none⟩ 1 1 l.cells hx rfl ?_ (by simp [Lv.cells, Value.oneCell']) (by unfold maxLen; omega) (by omega) hN.hb ?_
  · intro j u hj
    have e : (⟨B, 0, none⟩ : Addr).add j = ⟨B, j, none⟩ := by unfold Addr.add; split <;> simp_all
    rw [e]
    refine cell_of_block hB ?_
    simpa [Lv.cells] using hj
  intro v' w' ho hg _
  obtain ⟨g', cap', rfl⟩ : ∃ g' cap', v' = .slice (some ⟨g', 0, none⟩) (st.length + 1) cap' := by
    rcases ho.2 with ⟨_, h1⟩ | ⟨g', cap', cur, hv, _⟩
    · omega
    · exact ⟨g', cap', hv⟩
  have hlt : b < W.heap.size := Nat.lt_of_lt_of_le hN.lt hN.hb
  have hne : some b ≠ v.ownBlock := fun he => by have := (hN.own.lt b he.symm).1; have := hN.lt; omega
  have hb := hg.block b hlt hne
  have e1 : w'.cell? ⟨b, 1, none⟩ = some v := (World.cell?_of_block (a := ⟨b, 1, none⟩) hb).trans hN.lv
  have e2 : w'.frozen? ⟨b, 1, none⟩ = false := (World.frozen?_of_block (a := ⟨b, 1, none⟩) hb).trans hN.fr1
  refine h g' cap' w' e1 e2 ((NF.grown hN.own hg hN.lt hlt).trans (NF.setB _ b 1 _ (by omega))) ?_ hg.size ?_
  · exact ⟨by rw [World.cell?_setCell_other _ _ _ _ (by simp)]; exact (World.cell?_of_block (a := ⟨b, 0, none⟩) hb).trans hN.cnt, World.cell?_setCell_same _ _ _ e1, by rw [World.frozen?_setCell]; exact (World.frozen?_of_block (a := ⟨b, 0, none⟩) hb).trans hN.fr0, by rw [World.frozen?_setCell]; exact e2,
      ownsRow_setCell_below ho hN.lt _, hN.lt, by simpa using Nat.le_trans hN.hb hg.size, by simpa using hl, hN.c512, fun y hy => by
        rcases List.mem_cons.1 hy with rfl | hy
        · exact hok
        · exact hN.ok y hy⟩
  · intro k hk hn
    exact hg.block k hk (fun he => by
      obtain ⟨_, h2⟩ := hN.own
      rcases h2 with ⟨h0, _⟩ | ⟨g, cap, cur, hv, _, hh, _⟩
      · rw [h0] at he; cases he
      · rw [hv] at he; cases he; exact hn _ _ hh)

/-- one level is left -/
theorem nest_pop {W : World} {base b c g cap : Nat} {t : Lv} {r : List Lv} (h : nestAt W base b c (t :: r) (.slice (some ⟨g, 0, none⟩) (r.length + 1) cap)) :
    nestAt (W.setCell ⟨b, 1, none⟩ (.slice (some ⟨g, 0, none⟩) r.length cap)) base b c r (.slice (some ⟨g, 0, none⟩) r.length cap) :=
  nest_lv h (ownsRow_pop (last := t.cells) (stCells_len r) h.own) (by have := h.len; simp at this; omega) fun l hl => h.ok l (List.mem_cons_of_mem _ hl)
theorem partsN_le {k n : Int} (h5 : k = 5 → n ≤ 512) (h6 : k = 6 → n ≤ 512) : partsN k n ≤ 1024 := by
  unfold partsN
  by_cases e5 : k = 5
  · rw [if_pos e5]; have := h5 e5; omega
  rw [if_neg e5]
  by_cases e6 : k = 6
  · rw [if_pos e6]; have := h6 e6; omega
  · rw [if_neg e6]; omega
theorem popAll_z {t : Lv} {r : List Lv} (h : t.mi = 0) : popAll (t :: r) = popAll r := by simp [popAll, h]
theorem popAll_nz {t : Lv} {r : List Lv} (h : ¬ t.mi = 0) : popAll (t :: r) = t :: r := by simp [popAll, h]
end Go.Proofs.YtepinmeidjlmmaaDoor

namespace Go.Proofs.YtepinmeidjlmmaaDoor
open Go.RowKit

def EnR (w : World) (b base c : Nat) (s : List Lv) (k n : Int) (d : ByteArray) (wx : World) : Prop :=
  NF b w wx ∧ wx.heap[w.heap.size]? = some (.cells (itemCs k n d) 58 (0, 0)) ∧ ∃ v, nestAt wx base b c s v

theorem own_cap {w : World} {base e size n g cap : Nat} {xs : List Value} (h : w.ownsRow base e size (.slice (some ⟨g, 0, none⟩) n cap) n xs) : n ≤ cap := by
  rcases h.2 with ⟨h', _⟩ | ⟨g', cap', cur, h', _, _, hn, _⟩
  · cases h'
  · cases h'; exact hn

set_option maxRecDepth 100000 in
set_option maxHeartbeats 1000000 in
theorem enter_any {base b c : Nat} {s : List Lv} {v : Value} (k n : Int) (d : ByteArray) (w : World) (h : nestAt w base b c s v) (hn0 : 0 ≤ n) (hk6 : k = 6 → n ≤ 512) (hk5 : k = 5 → n ≤ 512) (hc : c + 1 ≤ 600) (hl : s.length ≤ 19)
    (hmi : ∀ t r, s = t :: r → 1 ≤ t.mi) (hkey : atKeyB s = true → (k = 1 ∨ k = 2 ∨ k = 4) ∧ d.size ≤ 1024) :
    Calls Tryd.prog 40 #[.pointer (some ⟨b, 0, none⟩), itemV k n d] w fun e w' => e = .returned (.tuple #[]) ∧ NF b w w' ∧ ∃ v', nestAt w' base b (c + 1) (enterS s k n d) v' := by
  have hbw : b < w.heap.size := Nat.lt_of_lt_of_le h.lt h.hb
  have h0 := h.cnt
  have hf0 := h.fr0
  have N1 := (nest_cnt h hc).later ((Below.refl _ _).alloc (Nat.le_refl _) (.cells #[.int .i64 k, .int .u64 n, .string d] 58))
  have F1 := (NF.setB w b 0 (.int .i64 ((c : Int) + 1)) (by omega)).trans (NF.of_below ((Below.refl _ _).alloc (Nat.le_refl _) (.cells #[.int .i64 k, .int .u64 n, .string d] 58)) (by simpa using hbw))
  have HN1 := Lib.hid N1
  have HF1 := Lib.hid F1
  have H := Lib.hid h
  have HK := Lib.hid hkey
  have HM := Lib.hid hmi
  have HC := Lib.hid hc
  clear N1 F1 h hkey hmi
  have hc2 : c ≤ 600 := by omega
  clear hc
  have hkl := keyS_len s k n d
  have hkm := keyS_mi (k := k) (n := n) (d := d) HM.out
  have hE : enterS s k n d = popAll (pushed (lessS (keyS s k n d)) k n) := rfl
  rw [hE]
  clear hE
  generalize hsk : keyS s k n d = sk at hkl hkm ⊢
  have HSK := Lib.hid hsk
  have HKM := Lib.hid hkm
  have hskl : sk.length ≤ 19 := by omega
  clear hsk hkm hkl
  unfold itemV
  go_enter Tryd.func40, Tryd.ntmps40
  go_upto_if 13 with (go_at_call 59; refine (atKey_any _ HN1.out).mono ?_; rintro e w2 ⟨rfl, m, rfl⟩)
  go_cut [] (fun wx => EnR w b base (c + 1) sk k n d wx)
  case first =>
    have N2 := HN1.out.later (below_drewN (Below.refl _ _) m)
    have F2 := HF1.out.trans (NF.of_below (below_drewN (Below.refl _ _) m) (by simp; omega))
    have B2 : (((w.setCell ⟨b, 0, none⟩ (.int .i64 ((c : Int) + 1))).alloc (.cells #[.int .i64 k, .int .u64 n, .string d] 58)).drewN m).heap[w.heap.size]? = some (.cells (itemCs k n d) 58 (0, 0)) := by
      have h := heap_new (w.setCell ⟨b, 0, none⟩ (.int .i64 ((c : Int) + 1))) (.cells (itemCs k n d) 58 (0, 0))
      rw [World.size_setCell] at h
      exact h
    generalize ((w.setCell ⟨b, 0, none⟩ (.int .i64 ((c : Int) + 1))).alloc (.cells #[.int .i64 k, .int .u64 n, .string d] 58)).drewN m = wx at N2 F2 B2 ⊢
    by_cases hA : atKeyB s = true
    · match s, hA with
      | t :: r, hA =>
        obtain ⟨g, cap, rfl, hg, _, _, c2, c3, c4, hf⟩ := nest_top N2
        obtain ⟨hk, hd⟩ := HK.out hA
        have hf2 := hf (r.length * 5 + 2)
        have hf3 := hf (r.length * 5 + 3)
        have hf4 := hf (r.length * 5 + 4)
        have h1 := N2.lv
        have b0 : wx.cell? ⟨w.heap.size, 0, none⟩ = some (.int .i64 k) := cell_of_block B2 rfl
        have b1 : wx.cell? ⟨w.heap.size, 1, none⟩ = some (.int .u64 n) := cell_of_block B2 rfl
        have b2 : wx.cell? ⟨w.heap.size, 2, none⟩ = some (.string d) := cell_of_block B2 rfl
        have hgx := (N2.own.lt g rfl).2
        have hbx : w.heap.size < wx.heap.size := lt_of_heap B2
        have hgw : ¬ g = w.heap.size := by
          intro e
          obtain ⟨cur, hrow⟩ := own_row100 N2.own
          rw [e, B2] at hrow
          cases hrow
        have hgb : ¬ g = b := by have := N2.lt; omega
        have hbg : ¬ b = g := by omega
        have hwg : ¬ w.heap.size = g := by omega
        simp at hl
        have hl2 : r.length ≤ 19 := by omega
        have HN2 := Lib.hid N2
        have HF2 := Lib.hid F2
        have HB2 := Lib.hid B2
        have HKK := Lib.hid hk
        clear hf N2 F2 B2 hk
        rw [hA]
        have HA := Lib.hid hA
        clear hA
        go_wp2_with fail
        go_region_held3 (fun W => W.cell? ⟨b, 1, none⟩ = some (.slice (some ⟨g, 0, none⟩) (r.length + 1) cap) ∧ W.cell? ⟨w.heap.size, 0, none⟩ = some (.int .i64 k) ∧ W.cell? ⟨w.heap.size, 1, none⟩ = some (.int .u64 n) ∧ W.cell? ⟨w.heap.size, 2, none⟩ = some (.string d))
          (((try refine ⟨?_, ?_, ?_, ?_⟩) <;> go_simp))
          ((go_at_call 60; refine (top_cell _ (And.left (by assumption)) hl2).mono ?_; rintro e w2 ⟨rfl, m2, rfl⟩))
        go_wp2_with fail
        go_meet
        have N3 := nest_key (HN2.out.later (below_drewN (Below.refl _ wx) (1 + m2))) HKK.out hn0 hd
        refine ⟨(HF2.out.trans (NF.of_below (below_drewN (Below.refl _ wx) (1 + m2)) (by omega))).trans N3.2, ?_, _, by rw [← HSK.out, keyS_yes HA.out]; exact N3.1⟩
        rw [heap_setCell_other _ _ _ _ hwg, heap_setCell_other _ _ _ _ hwg, heap_setCell_other _ _ _ _ hwg]
        exact HB2.out
    · have hA2 : atKeyB s = false := by simpa using hA
      have HR := Lib.hid (show EnR w b base (c + 1) s k n d wx from ⟨F2, B2, _, N2⟩)
      clear N2 F2 B2
      go_wp2_with fail
      go_meet
      rw [← HSK.out, keyS_no hA2]
      exact HR.out
  case rest =>
    obtain ⟨F1, B1, v1, N1⟩ := hcut
    have HF1 := Lib.hid F1
    have HB1 := Lib.hid B1
    have h1 := N1.lv
    obtain ⟨a1, cap1, rfl⟩ := nest_len N1
    have HN2 := Lib.hid N1
    clear N1 F1 B1 h0 hf0 HN1 HK HM hl
    go_upto_if 24 with fail
    go_cut [] (fun wx => EnR w b base (c + 1) (lessS sk) k n d wx)
    case first =>
      cases sk with
      | nil =>
        go_wp2_with fail
        go_meet
        exact ⟨HF1.out, HB1.out, _, HN2.out⟩
      | cons t r =>
        obtain ⟨g, cap, e, hg, _, c1, _, _, _, hf⟩ := nest_top HN2.out
        simp only [List.length_cons] at e
        cases e
        have hfm := hf (r.length * 5 + 1)
        have hgx := (HN2.out.own.lt g rfl).2
        have hwg : ¬ w.heap.size = g := by
          intro e
          obtain ⟨cur, hrow⟩ := own_row100 HN2.out.own
          rw [← e, HB1.out] at hrow
          cases hrow
        have hgb : ¬ g = b := by have := HN2.out.lt; omega
        have hbg : ¬ b = g := by omega
        obtain ⟨_, hm2, _⟩ := HN2.out.ok t (by simp)
        have hm1 := HKM.out t r rfl
        simp only [List.length_cons] at hskl
        have hl2 : r.length ≤ 19 := by omega
        have hdec : decide (0 < (t :: r).length) = true := by simp
        rw [hdec]
        clear hf hdec
        go_wp2_with (go_at_call 60; refine (top_cell _ (by exact h1) hl2).mono ?_; rintro e w2 ⟨rfl, m2, rfl⟩)
        go_meet
        have N3 := nest_less (HN2.out.later (below_drewN (Below.refl _ wc) m2)) hm1
        refine ⟨(HF1.out.trans (NF.of_below (below_drewN (Below.refl _ wc) m2) (by have := HF1.out.size; omega))).trans N3.2, ?_, _, N3.1⟩
        rw [heap_setCell_other _ _ _ _ hwg]
        exact HB1.out
    case rest =>
      generalize hs2 : lessS sk = sl at hcut
      have hll : sl.length ≤ 19 := by rw [← hs2, lessS_len]; exact hskl
      have HS2 := Lib.hid hs2
      clear hs2 HN2 HF1 HB1 h1 HKM hskl
      obtain ⟨F1, B1, v2, N1⟩ := hcut
      have HF1 := Lib.hid F1
      have HB1 := Lib.hid B1
      have b0 : wc.cell? ⟨w.heap.size, 0, none⟩ = some (.int .i64 k) := cell_of_block B1 rfl
      have b1 : wc.cell? ⟨w.heap.size, 1, none⟩ = some (.int .u64 n) := cell_of_block B1 rfl
      have b2 : wc.cell? ⟨w.heap.size, 2, none⟩ = some (.string d) := cell_of_block B1 rfl
      have hbw2 : w.heap.size < wc.heap.size := lt_of_heap B1
      have HN2 := Lib.hid N1
      clear N1 F1 B1
      have hbw3 : b < wc.heap.size := by have := HF1.out.size; omega
      go_upto_if 36 with (go_at_call 47; refine (parts_any _ _ _ _ hn0 hk6).mono ?_; rintro e w2 ⟨rfl, rfl⟩)
      go_cut [] (fun wx => NF b w wx ∧ ∃ v, nestAt wx base b (c + 1) (pushed sl k n) v)
      case first =>
        by_cases hp : 0 < partsN k n
        · have hple := partsN_le hk5 hk6
          have h1 := HN2.out.lv
          have HOK := Lib.hid (newLv_ok hp hple)
          have hf1 := HN2.out.fr1
          have hl20 : sl.length + 1 ≤ 20 := by omega
          go_wp2_with fail
          go_region_law ((refine step_push rfl _ _ rfl (newLv k n) (by exact HN2.out.later (((Below.refl _ wc).alloc (Nat.le_refl _) _).alloc (by simp) _).drew) rfl _ rfl (by exact heap_new3 wc _ _) hl20 HOK.out ?_; intro g' cap' w' e1 e2 hNF hNest hsz hkp))
          all_goals
            go_wp2_with fail
            go_meet
            exact ⟨(HF1.out.trans (NF.of_below (((Below.refl _ wc).alloc (Nat.le_refl _) _).alloc (by simp) _).drew hbw3)).trans hNF, _, by rw [pushed_yes (by omega)]; exact hNest⟩
        · have hN3 := HN2.out.later ((Below.refl _ wc).alloc (Nat.le_refl _) (.cells #[.int .i64 k, .int .u64 n, .string d] 58))
          go_wp2_with fail
          go_meet
          exact ⟨HF1.out.trans (NF.of_below ((Below.refl _ wc).alloc (Nat.le_refl _) _) hbw3), v2, by rw [pushed_no (by omega)]; exact hN3⟩
      case rest =>
        clear HN2 HF1 HB1 b0 b1 b2 hbw2 hbw3 hk5 hk6
        have HCUT := Lib.hid hcut
        clear hcut
        have hbwc : b < wc.heap.size := by have := HCUT.out.1.size; omega
        go_wp2_with fail
        go_loopg [] ((pushed sl k n).length + 1) (fun gk wx => NF b w wx ∧ ∃ st v, nestAt wx base b (c + 1) st v ∧ popAll st = popAll (pushed sl k n) ∧ st.length < gk)
        case atStart =>
          obtain ⟨v3, hv3⟩ := HCUT.out.2
          exact ⟨HCUT.out.1, _, v3, hv3, rfl, by omega⟩
        case round =>
          obtain ⟨F4, st, v4, N4, e4, hg4⟩ := hrel
          have HF4 := Lib.hid F4
          have HE4 := Lib.hid e4
          have h1 := N4.lv
          have hbx : b < wr.heap.size := by have := F4.size; omega
          clear F4 e4
          cases st with
          | nil =>
            obtain ⟨a4, cap4, rfl⟩ := nest_len N4
            have HN4 := Lib.hid N4
            clear N4
            go_wp2
            go_end0
            exact ⟨rfl, HF4.out, .slice a4 0 cap4, by rw [HS2.out, ← HE4.out]; exact HN4.out⟩
          | cons t r =>
            obtain ⟨g, cap, rfl, hg, _, c1, _, _, _, hf⟩ := nest_top N4
            have hl4 := N4.len
            obtain ⟨hm0, hm1, _⟩ := N4.ok t (by simp)
            have hf1 := N4.fr1
            have HN4 := Lib.hid N4
            have hcap := own_cap N4.own
            simp only [List.length_cons] at hl4 hg4 hcap
            have hl2 : r.length ≤ 19 := by omega
            clear N4 hf
            by_cases hz : t.mi = 0
            · have hzb : (t.mi == 0) = true := by simp [hz]
              have HZ := Lib.hid hz
              clear hz
              go_wp2_with (go_at_call 60; refine (top_cell _ (by exact h1) hl2).mono ?_; rintro e w2 ⟨rfl, m2, rfl⟩)
              go_region
              all_goals
                go_wp2_with fail
                go_roundg (r.length + 1)
                case measure => omega
                case rel =>
                  have N5 := HN4.out.later (below_drewN (Below.refl _ wr) (m2 + 1))
                  refine ⟨(HF4.out.trans (NF.of_below (below_drewN (Below.refl _ wr) (m2 + 1)) hbx)).trans (NF.setB _ b 1 _ (by omega)), r, _, nest_pop N5, ?_, by omega⟩
                  rw [← HE4.out, popAll_z HZ.out]
            · have hzb : (t.mi == 0) = false := by simp [hz]
              have HZ := Lib.hid hz
              clear hz
              go_wp2_with (go_at_call 60; refine (top_cell _ (by exact h1) hl2).mono ?_; rintro e w2 ⟨rfl, m2, rfl⟩)
              go_end0
              have N5 := HN4.out.later (below_drewN (Below.refl _ wr) m2)
              exact ⟨rfl, HF4.out.trans (NF.of_below (below_drewN (Below.refl _ wr) m2) hbx), _, by rw [HS2.out, ← HE4.out, popAll_nz HZ.out]; exact N5⟩
end Go.Proofs.YtepinmeidjlmmaaDoor
