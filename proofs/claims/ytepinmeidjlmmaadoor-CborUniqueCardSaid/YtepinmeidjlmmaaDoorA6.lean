import Derived.Test.YtepinmeidjlmmaaDoorA2
import Derived.Test.YtepinmeidjlmmaaDoorA5
import Derived.Test.YtepinmeidjlmmaaDoorShelf
namespace Go.Proofs.YtepinmeidjlmmaaDoor
open Go.RowKit

structure Tabs (w : World) : Prop where
  tz : TzTab w
  u8 : U8Tab w
theorem Tabs.below {B : Nat} {w w' : World} (h : Tabs w) (hb : Below B w w') (hB : 4 ≤ B) : Tabs w' := ⟨h.tz.below hb hB, h.u8.below hb hB⟩
theorem Tabs.later {w w' : World} (h : Tabs w) (hb : Below w.heap.size w w') : Tabs w' := h.below hb h.tz.hs

theorem lt_of_heap {W : World} {i : Nat} {o : Obj} (h : W.heap[i]? = some o) : i < W.heap.size := by
  rcases Nat.lt_or_ge i W.heap.size with h' | h'
  · exact h'
  · rw [Array.getElem?_eq_none h'] at h; cases h
theorem nestAt.later {w w' : World} {base b c : Nat} {s : List Lv} {v : Value} (h : nestAt w base b c s v) (hb : Below w.heap.size w w') : nestAt w' base b c s v :=
  have hlt : b < w.heap.size := Nat.lt_of_lt_of_le h.lt h.hb
  ⟨(hb.cell (p := ⟨b, 0, none⟩) hlt).trans h.cnt, (hb.cell (p := ⟨b, 1, none⟩) hlt).trans h.lv, (hb.frozen (p := ⟨b, 0, none⟩) hlt).trans h.fr0, (hb.frozen (p := ⟨b, 1, none⟩) hlt).trans h.fr1, own_below h.own hb, h.lt, Nat.le_trans h.hb hb.size, h.len, h.c512, h.ok⟩

def contentE (s : List Lv) (k n : Int) (d : ByteArray) : Int :=
  if k = 4 ∧ Lib.validD d.data.toList = false then 6 else
  match s with
  | [] => 0
  | t :: _ => if atKeyB s = true ∧ t.lk ≠ 0 ∧ 0 ≤ cmpEnc (encItem t.lk t.ln t.ld) (encItem k n d) then 7 else 0
theorem content6 {s : List Lv} {k n : Int} {d : ByteArray} (h : k = 4) (h2 : Lib.validD d.data.toList = false) : contentE s k n d = 6 := by unfold contentE; rw [if_pos ⟨h, h2⟩]
theorem content_nokey {s : List Lv} {k n : Int} {d : ByteArray} (h : ¬ (k = 4 ∧ Lib.validD d.data.toList = false)) (h2 : atKeyB s = false) : contentE s k n d = 0 := by
  unfold contentE; rw [if_neg h]
  cases s with
  | nil => rfl
  | cons t r => simp [h2]
theorem content_key {t : Lv} {r : List Lv} {k n : Int} {d : ByteArray} (h : ¬ (k = 4 ∧ Lib.validD d.data.toList = false)) (h2 : atKeyB (t :: r) = true) :
    contentE (t :: r) k n d = if t.lk ≠ 0 ∧ 0 ≤ cmpEnc (encItem t.lk t.ln t.ld) (encItem k n d) then 7 else 0 := by
  unfold contentE; rw [if_neg h]; simp [h2]

/-- what the condition about keys reads -/
def KeyS (B base b c : Nat) (s : List Lv) (v : Value) (k n : Int) (d : ByteArray) (W : World) : Prop :=
  nestAt W base b c s v ∧ Tabs W ∧ W.heap[B]? = some (.cells (itemCs k n d) 58 (0, 0)) ∧ W.cell? ⟨B, 0, none⟩ = some (.int .i64 k) ∧ W.cell? ⟨B, 1, none⟩ = some (.int .u64 n) ∧ W.cell? ⟨B, 2, none⟩ = some (.string d)
theorem KeyS.mk' {B base b c : Nat} {s : List Lv} {v : Value} {k n : Int} {d : ByteArray} {W : World} (h : nestAt W base b c s v) (t : Tabs W) (hB : W.heap[B]? = some (.cells (itemCs k n d) 58 (0, 0))) : KeyS B base b c s v k n d W :=
  ⟨h, t, hB, cell_of_block hB rfl, cell_of_block hB rfl, cell_of_block hB rfl⟩
theorem KeyS.step {B base b c : Nat} {s : List Lv} {v : Value} {k n : Int} {d : ByteArray} {W W' : World} (h : KeyS B base b c s v k n d W) (hb : Below W.heap.size W W') : KeyS B base b c s v k n d W' :=
  KeyS.mk' (h.1.later hb) (h.2.1.later hb) ((hb.block _ (lt_of_heap h.2.2.1)).trans h.2.2.1)
/-- and the innermost level -/
def TopS (B base b c g : Nat) (t : Lv) (r : List Lv) (v : Value) (k n : Int) (d : ByteArray) (W : World) : Prop :=
  nestAt W base b c (t :: r) v ∧ Tabs W ∧ W.heap[B]? = some (.cells (itemCs k n d) 58 (0, 0)) ∧ W.cell? ⟨B, 0, none⟩ = some (.int .i64 k) ∧ W.cell? ⟨B, 1, none⟩ = some (.int .u64 n) ∧ W.cell? ⟨B, 2, none⟩ = some (.string d) ∧
  W.cell? ⟨g, r.length * 5 + 2, none⟩ = some (.int .i64 t.lk) ∧ W.cell? ⟨g, r.length * 5 + 3, none⟩ = some (.int .u64 t.ln) ∧ W.cell? ⟨g, r.length * 5 + 4, none⟩ = some (.string t.ld)
theorem TopS.mk' {B base b c g cap : Nat} {t : Lv} {r : List Lv} {k n : Int} {d : ByteArray} {W : World} (h : nestAt W base b c (t :: r) (.slice (some ⟨g, 0, none⟩) (r.length + 1) cap)) (T : Tabs W) (hB : W.heap[B]? = some (.cells (itemCs k n d) 58 (0, 0))) :
    TopS B base b c g t r (.slice (some ⟨g, 0, none⟩) (r.length + 1) cap) k n d W := by
  obtain ⟨g2, cap2, e, _, _, _, c2, c3, c4, _⟩ := nest_top h
  cases e
  exact ⟨h, T, hB, cell_of_block hB rfl, cell_of_block hB rfl, cell_of_block hB rfl, c2, c3, c4⟩
theorem TopS.step {B base b c g cap : Nat} {t : Lv} {r : List Lv} {k n : Int} {d : ByteArray} {W W' : World} (h : TopS B base b c g t r (.slice (some ⟨g, 0, none⟩) (r.length + 1) cap) k n d W) (hb : Below W.heap.size W W') :
    TopS B base b c g t r (.slice (some ⟨g, 0, none⟩) (r.length + 1) cap) k n d W' :=
  TopS.mk' (h.1.later hb) (h.2.1.later hb) ((hb.block _ (lt_of_heap h.2.2.1)).trans h.2.2.1)

theorem atKey_t {base b c : Nat} {s : List Lv} {v : Value} {w : World} {x : Bool} (h : nestAt w base b c s v) (hx : atKeyB s = x) :
    Calls Tryd.prog 59 #[.pointer (some ⟨b, 0, none⟩)] w fun e w' => e = .returned (.bool x) ∧ ∃ m, w' = w.drewN m := by
  rw [← hx]; exact atKey_any w h

set_option maxRecDepth 100000 in
set_option maxHeartbeats 1000000 in
/-- behind the first condition: the order of keys -/
theorem content_any {base b c : Nat} {s : List Lv} {v : Value} (k n : Int) (d : ByteArray) (w : World) (h : nestAt w base b c s v) (ht : Tabs w) (hn0 : 0 ≤ n) (hk0 : 1 ≤ k) (hk1 : k ≤ 8) (h7 : k = 7 → n ≤ 1) (hd : d.size ≤ 1100) :
    Calls Tryd.prog 58 #[.pointer (some ⟨b, 0, none⟩), itemV k n d] w fun e w' => e = .returned (.int .i64 (contentE s k n d)) ∧ Below w.heap.size w w' := by
  have H := Lib.hid h
  have HT := Lib.hid ht
  have hb0 : Below w.heap.size w (w.alloc (.cells #[.int .i64 k, .int .u64 n, .string d] 58)) := (Below.refl _ w).alloc (Nat.le_refl _) _
  have HB := Lib.hid hb0
  clear h ht hb0
  unfold itemV
  by_cases h6 : k = 4 ∧ Lib.validD d.data.toList = false
  · obtain ⟨hk, hv⟩ := h6
    subst hk
    have HV := Lib.hid hv
    rw [content6 rfl hv]
    clear hv h7
    go_enter Tryd.func58, Tryd.ntmps58
    go_wp2_with (go_at_call 69; refine (valid_any d _ (by omega) (by exact (HT.out.later HB.out).u8)).mono ?_; rw [HV.out]; rintro e w1 ⟨rfl, hb1⟩)
    go_ret
    exact ⟨rfl, HB.out.trans (hb1.mono HB.out.size)⟩
  · by_cases hA : atKeyB s = true
    · match s, hA with
      | t :: r, hA =>
        obtain ⟨g, cap, rfl, _⟩ := nest_top H.out
        have hl := H.out.len
        simp at hl
        obtain ⟨_, _, ok3, ok4, ok5⟩ := H.out.ok t (by simp)
        rw [content_key h6 hA]
        have HA := Lib.hid hA
        clear hA
        by_cases hlk : t.lk = 0
        · have hlb : (t.lk != 0) = false := by simp [hlk]
          rw [if_neg (by simp [hlk])]
          clear hlk ok3 ok4 ok5
          by_cases hk4 : k = 4
          · subst hk4
            have hv : Lib.validD d.data.toList = true := by simpa using h6
            have HV := Lib.hid hv
            clear hv h6 h7
            go_enter Tryd.func58, Tryd.ntmps58
            go_wp2_with (go_at_call 69; refine (valid_any d _ (by omega) (by exact (HT.out.later HB.out).u8)).mono ?_; rw [HV.out]; rintro e w1 ⟨rfl, hb1⟩)
            have hb2 := HB.out.trans (hb1.mono HB.out.size)
            have hN := H.out.later hb2
            have AK := Lib.hid (fun n => atKey_t (hN.later (below_drewN (Below.refl _ _) n)) HA.out)
            have TC := Lib.hid (fun n => top_cell _ (hN.later (below_drewN (Below.refl _ _) n)).lv hl)
            obtain ⟨g2, cap2, e2, _, _, _, c2, _⟩ := nest_top hN
            cases e2
            have HN := Lib.hid hN
            clear hN
            go_quiet ((first | (go_at_call 59; exact Calls.quiet_of (AK.out _)) | (go_at_call 60; exact Calls.quiet_of (TC.out _))))
            go_wp2
            go_ret
            exact ⟨rfl, below_drewN hb2 _⟩
          · have hkb : (k == 4) = false := by simpa using hk4
            clear h6 h7 hk4
            go_enter Tryd.func58, Tryd.ntmps58
            go_wp2_with fail
            have hN := H.out.later HB.out
            have AK := Lib.hid (fun n => atKey_t (hN.later (below_drewN (Below.refl _ _) n)) HA.out)
            have TC := Lib.hid (fun n => top_cell _ (hN.later (below_drewN (Below.refl _ _) n)).lv hl)
            obtain ⟨g2, cap2, e2, _, _, _, c2, _⟩ := nest_top hN
            cases e2
            have HN := Lib.hid hN
            clear hN
            go_quiet ((first | (go_at_call 59; exact Calls.quiet_of (AK.out _)) | (go_at_call 60; exact Calls.quiet_of (TC.out _))))
            go_wp2
            go_ret
            exact ⟨rfl, below_drewN HB.out _⟩
        · have hlb : (t.lk != 0) = true := by simpa using hlk
          have HC := Lib.hid (fun (W : World) (hW : Tabs W) => cmpEnc_any t.lk t.ln t.ld k n d W hW.tz ok4 (by omega) (by omega) (by omega) (by omega) hn0 hk0 hk1 h7 hd)
          clear ok3 ok4 ok5
          by_cases hk4 : k = 4
          · subst hk4
            have hv : Lib.validD d.data.toList = true := by simpa using h6
            have HV := Lib.hid hv
            clear hv h6 h7
            go_enter Tryd.func58, Tryd.ntmps58
            go_wp2_with (go_at_call 69; refine (valid_any d _ (by omega) (by exact (HT.out.later HB.out).u8)).mono ?_; rw [HV.out]; rintro e w1 ⟨rfl, hb1⟩)
            have hb2 := HB.out.trans (hb1.mono HB.out.size)
            have S0 := TopS.mk' (H.out.later hb2) (HT.out.later hb2) ((hb1.block _ (by simp)).trans (heap_new w (.cells (itemCs 4 n d) 58)))
            have HS0 := Lib.hid S0
            clear S0
            go_region_held3 (fun W => nestAt W base b c (t :: r) (.slice (some ⟨g, 0, none⟩) (r.length + 1) cap) ∧ Tabs W ∧ W.heap[w.heap.size]? = some (.cells (itemCs 4 n d) 58 (0, 0)) ∧ W.cell? ⟨w.heap.size, 0, none⟩ = some (.int .i64 4) ∧ W.cell? ⟨w.heap.size, 1, none⟩ = some (.int .u64 n) ∧ W.cell? ⟨w.heap.size, 2, none⟩ = some (.string d) ∧ W.cell? ⟨g, r.length * 5 + 2, none⟩ = some (.int .i64 t.lk) ∧ W.cell? ⟨g, r.length * 5 + 3, none⟩ = some (.int .u64 t.ln) ∧ W.cell? ⟨g, r.length * 5 + 4, none⟩ = some (.string t.ld))
              (first | (exact TopS.step HS0.out (Below.refl _ _).drew) | (exact TopS.step (by assumption) (below_drewN (Below.refl _ _) _)) | (exact TopS.step (by assumption) (by assumption)))
              (first | (go_at_call 59; refine (atKey_any _ (And.left (by assumption))).mono ?_; rw [HA.out]; rintro e w2 ⟨rfl, m, rfl⟩) | (go_at_call 60; refine (top_cell _ (by exact (And.left (by assumption : TopS w.heap.size base b c g t r (.slice (some ⟨g, 0, none⟩) (r.length + 1) cap) 4 n d _)).lv) hl).mono ?_; rintro e w2 ⟨rfl, m, rfl⟩) | (go_at_call 79; refine (HC.out _ (And.left (And.right (by assumption)))).mono ?_; rintro e w3 ⟨rfl, hb3⟩))
            have hb4 := (below_drewN hb2 _).trans (hb3.mono hb2.size)
            by_cases hcm : 0 ≤ cmpEnc (encItem t.lk t.ln t.ld) (encItem 4 n d)
            · go_wp2
              go_ret
              exact ⟨rfl, hb4⟩
            · go_wp2
              go_ret
              exact ⟨rfl, hb4⟩
          · have hkb : (k == 4) = false := by simpa using hk4
            clear h6 h7 hk4
            go_enter Tryd.func58, Tryd.ntmps58
            go_wp2_with fail
            have S0 := TopS.mk' (H.out.later HB.out) (HT.out.later HB.out) (heap_new w (.cells (itemCs k n d) 58))
            have HS0 := Lib.hid S0
            clear S0
            go_region_held3 (fun W => nestAt W base b c (t :: r) (.slice (some ⟨g, 0, none⟩) (r.length + 1) cap) ∧ Tabs W ∧ W.heap[w.heap.size]? = some (.cells (itemCs k n d) 58 (0, 0)) ∧ W.cell? ⟨w.heap.size, 0, none⟩ = some (.int .i64 k) ∧ W.cell? ⟨w.heap.size, 1, none⟩ = some (.int .u64 n) ∧ W.cell? ⟨w.heap.size, 2, none⟩ = some (.string d) ∧ W.cell? ⟨g, r.length * 5 + 2, none⟩ = some (.int .i64 t.lk) ∧ W.cell? ⟨g, r.length * 5 + 3, none⟩ = some (.int .u64 t.ln) ∧ W.cell? ⟨g, r.length * 5 + 4, none⟩ = some (.string t.ld))
              (first | (exact TopS.step HS0.out (Below.refl _ _).drew) | (exact TopS.step (by assumption) (below_drewN (Below.refl _ _) _)) | (exact TopS.step (by assumption) (by assumption)))
              (first | (go_at_call 59; refine (atKey_any _ (And.left (by assumption))).mono ?_; rw [HA.out]; rintro e w2 ⟨rfl, m, rfl⟩) | (go_at_call 60; refine (top_cell _ (by exact (And.left (by assumption : TopS w.heap.size base b c g t r (.slice (some ⟨g, 0, none⟩) (r.length + 1) cap) k n d _)).lv) hl).mono ?_; rintro e w2 ⟨rfl, m, rfl⟩) | (go_at_call 79; refine (HC.out _ (And.left (And.right (by assumption)))).mono ?_; rintro e w3 ⟨rfl, hb3⟩))
            have hb4 := (below_drewN HB.out _).trans (hb3.mono HB.out.size)
            by_cases hcm : 0 ≤ cmpEnc (encItem t.lk t.ln t.ld) (encItem k n d)
            · go_wp2
              go_ret
              exact ⟨rfl, hb4⟩
            · go_wp2
              go_ret
              exact ⟨rfl, hb4⟩
    · have hA2 : atKeyB s = false := by simpa using hA
      rw [content_nokey h6 hA2]
      have HA := Lib.hid hA2
      clear hA hA2
      by_cases hk4 : k = 4
      · subst hk4
        have hv : Lib.validD d.data.toList = true := by simpa using h6
        have HV := Lib.hid hv
        clear hv h6 h7
        go_enter Tryd.func58, Tryd.ntmps58
        go_wp2_with (go_at_call 69; refine (valid_any d _ (by omega) (by exact (HT.out.later HB.out).u8)).mono ?_; rw [HV.out]; rintro e w1 ⟨rfl, hb1⟩)
        have hb2 := HB.out.trans (hb1.mono HB.out.size)
        have hN := H.out.later hb2
        have AK := Lib.hid (fun n => atKey_t (hN.later (below_drewN (Below.refl _ _) n)) HA.out)
        have HN := Lib.hid hN
        clear hN
        go_quiet ((go_at_call 59; exact Calls.quiet_of (AK.out _)))
        go_wp2
        go_ret
        exact ⟨rfl, below_drewN hb2 _⟩
      · have hkb : (k == 4) = false := by simpa using hk4
        clear h6 h7 hk4
        go_enter Tryd.func58, Tryd.ntmps58
        go_wp2_with fail
        have hN := H.out.later HB.out
        have AK := Lib.hid (fun n => atKey_t (hN.later (below_drewN (Below.refl _ _) n)) HA.out)
        have HN := Lib.hid hN
        clear hN
        go_quiet ((go_at_call 59; exact Calls.quiet_of (AK.out _)))
        go_wp2
        go_ret
        exact ⟨rfl, below_drewN HB.out _⟩
end Go.Proofs.YtepinmeidjlmmaaDoor
