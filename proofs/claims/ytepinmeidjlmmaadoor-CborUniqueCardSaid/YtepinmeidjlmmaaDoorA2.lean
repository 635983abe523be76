import Derived.Test.YtepinmeidjlmmaaDoorA1
namespace Go.Proofs.YtepinmeidjlmmaaDoor
open Go.RowKit

structure Lv where
  mp : Bool
  mi : Int
  lk : Int
  ln : Int
  ld : ByteArray

def Lv.cells (l : Lv) : List Value := [.bool l.mp, .int .u64 l.mi, .int .i64 l.lk, .int .u64 l.ln, .string l.ld]
/-- the stack's head is the innermost level, which lies last in memory -/
def stCells : List Lv → List Value
  | [] => []
  | t :: r => stCells r ++ t.cells
theorem stCells_len : ∀ s : List Lv, (stCells s).length = s.length * 5
  | [] => rfl
  | t :: r => by simp [stCells, stCells_len r, Lv.cells]; omega

structure nestAt (w : World) (base b c : Nat) (s : List Lv) (v : Value) : Prop where
  cnt : w.cell? ⟨b, 0, none⟩ = some (.int .i64 c)
  lv : w.cell? ⟨b, 1, none⟩ = some v
  fr0 : w.frozen? ⟨b, 0, none⟩ = false
  fr1 : w.frozen? ⟨b, 1, none⟩ = false
  own : w.ownsRow base 100 5 v s.length (stCells s)
  lt : b < base
  hb : base ≤ w.heap.size
  len : s.length ≤ 20
  c512 : c ≤ 600
  ok : ∀ l ∈ s, 0 ≤ l.mi ∧ l.mi ≤ 1024 ∧ l.ld.size ≤ 1024 ∧ 0 ≤ l.ln ∧ (l.lk = 0 ∨ l.lk = 1 ∨ l.lk = 2 ∨ l.lk = 4)

theorem nest_len {w : World} {base b c : Nat} {s : List Lv} {v : Value} (h : nestAt w base b c s v) : ∃ a cap, v = .slice a s.length cap := by
  obtain ⟨_, h2⟩ := h.own
  rcases h2 with ⟨h0, h1⟩ | ⟨g', cap', cur, hv, _⟩
  · exact ⟨none, 0, by rw [h0, h1]⟩
  · exact ⟨_, _, hv⟩
theorem nest_top {w : World} {base b c : Nat} {t : Lv} {r : List Lv} {v : Value} (h : nestAt w base b c (t :: r) v) : ∃ g cap, v = .slice (some ⟨g, 0, none⟩) (r.length + 1) cap ∧ base ≤ g ∧
    w.cell? ⟨g, r.length * 5, none⟩ = some (.bool t.mp) ∧ w.cell? ⟨g, r.length * 5 + 1, none⟩ = some (.int .u64 t.mi) ∧ w.cell? ⟨g, r.length * 5 + 2, none⟩ = some (.int .i64 t.lk) ∧ w.cell? ⟨g, r.length * 5 + 3, none⟩ = some (.int .u64 t.ln) ∧ w.cell? ⟨g, r.length * 5 + 4, none⟩ = some (.string t.ld) ∧
    ∀ j, w.frozen? ⟨g, j, none⟩ = false := by
  have hown := h.own
  obtain ⟨_, h2⟩ := h.own
  rcases h2 with ⟨h0, h1⟩ | ⟨g, cap, cur, rfl, hg, _⟩
  · exact absurd h1 (by simp)
  · have hc := fun j hj => hown.cellAt (j := j) hj
    have L := stCells_len r
    refine ⟨g, cap, rfl, hg, ?_, ?_, ?_, ?_, ?_, fun j => hown.frozenAt j⟩
    · rw [hc _ (by simp), stCells, List.getElem?_append_right (by omega), L, Nat.sub_self]; rfl
    · rw [hc _ (by simp; omega), stCells, List.getElem?_append_right (by omega), L, Nat.add_sub_cancel_left]; rfl
    · rw [hc _ (by simp; omega), stCells, List.getElem?_append_right (by omega), L, Nat.add_sub_cancel_left]; rfl
    · rw [hc _ (by simp; omega), stCells, List.getElem?_append_right (by omega), L, Nat.add_sub_cancel_left]; rfl
    · rw [hc _ (by simp; omega), stCells, List.getElem?_append_right (by omega), L, Nat.add_sub_cancel_left]; rfl

theorem emp_len (s : List Lv) : ((s.length : Int) == 0) = s.isEmpty := by cases s <;> simp; omega
def compB (c : Nat) (s : List Lv) : Bool := decide (0 < c) && s.isEmpty

set_option maxRecDepth 100000 in
set_option maxHeartbeats 400000 in
theorem complete_any {base b c : Nat} {s : List Lv} {v : Value} (w : World) (h : nestAt w base b c s v) :
    Calls Tryd.prog 41 #[.pointer (some ⟨b, 0, none⟩)] w fun e w' => e = .returned (.bool (compB c s)) ∧ w = w' := by
  obtain ⟨a, cap, rfl⟩ := nest_len h
  have h0 := h.cnt
  have h1 := h.lv
  have hl := h.len
  clear h
  go_enter Tryd.func41, Tryd.ntmps41
  go_wp2
  all_goals go_ret
  all_goals exact ⟨ret_bool (by simp [compB, *, emp_len]), rfl⟩

set_option maxRecDepth 100000 in
set_option maxHeartbeats 400000 in
theorem top_cell {b g n cap : Nat} (w : World) (h1 : w.cell? ⟨b, 1, none⟩ = some (.slice (some ⟨g, 0, none⟩) (n + 1) cap)) (hl : n ≤ 19) :
    Calls Tryd.prog 60 #[.pointer (some ⟨b, 0, none⟩)] w fun e w' => e = .returned (.pointer (some ⟨g, n * 5, none⟩)) ∧ ∃ m, w' = w.drewN m := by
  go_enter Tryd.func60, Tryd.ntmps60
  go_wp2
  go_quiet (fail)
  go_wp2
  go_ret
  exact ⟨rfl, _, rfl⟩

def atKeyB : List Lv → Bool
  | [] => false
  | t :: _ => t.mp && t.mi % 2 == 0

set_option maxRecDepth 100000 in
set_option maxHeartbeats 400000 in
theorem atKey_any {base b c : Nat} {s : List Lv} {v : Value} (w : World) (h : nestAt w base b c s v) :
    Calls Tryd.prog 59 #[.pointer (some ⟨b, 0, none⟩)] w fun e w' => e = .returned (.bool (atKeyB s)) ∧ ∃ m, w' = w.drewN m := by
  match s with
  | [] =>
    obtain ⟨a, cap, rfl⟩ := nest_len h
    have h1 := h.lv
    clear h
    go_enter Tryd.func59, Tryd.ntmps59
    go_wp2
    go_ret
    exact ⟨rfl, 0, rfl⟩
  | t :: r =>
    obtain ⟨g, cap, rfl, hg, c0, c1, c2, c3, c4, _⟩ := nest_top h
    have h1 := h.lv
    have hl := h.len
    obtain ⟨hmi0, hmi1, _⟩ := h.ok t (by simp)
    simp at hl
    clear h c2 c3 c4
    by_cases hm : t.mp = true
    · rw [hm] at c0
      go_enter Tryd.func59, Tryd.ntmps59
      go_wp2_with (go_at_call 60; refine (top_cell _ (by exact h1) hl).mono ?_; rintro e w' ⟨rfl, m, rfl⟩)
      all_goals go_ret
      all_goals exact ⟨ret_bool (by simp [atKeyB, hm]), _, rfl⟩
    · have hm2 : t.mp = false := by simpa using hm
      rw [hm2] at c0
      clear hm
      go_enter Tryd.func59, Tryd.ntmps59
      go_wp2_with (go_at_call 60; refine (top_cell _ (by exact h1) hl).mono ?_; rintro e w' ⟨rfl, m, rfl⟩)
      all_goals go_ret
      all_goals exact ⟨ret_bool (by simp [atKeyB, hm2]), _, rfl⟩

def placeE (c : Nat) (s : List Lv) (k : Int) : Int :=
  if 512 ≤ c then 8 else if k < 1 ∨ 8 < k then 3 else if atKeyB s = true ∧ canKeyB k = false then 3 else if 8 < s.length then 5 else 0

theorem place8 {c : Nat} {s : List Lv} {k : Int} (h : 512 ≤ c) : placeE c s k = 8 := by simp [placeE, h]
theorem place3 {c : Nat} {s : List Lv} {k : Int} (h : c < 512) (h2 : k < 1 ∨ 8 < k) : placeE c s k = 3 := by simp only [placeE]; rw [if_neg (by omega), if_pos h2]
theorem place3k {c : Nat} {s : List Lv} {k : Int} (h : c < 512) (h2 : 1 ≤ k) (h3 : k ≤ 8) (h4 : atKeyB s = true) (h5 : canKeyB k = false) : placeE c s k = 3 := by simp only [placeE]; rw [if_neg (by omega), if_neg (by omega), if_pos ⟨h4, h5⟩]
theorem place_lv {c : Nat} {s : List Lv} {k : Int} (h : c < 512) (h2 : 1 ≤ k) (h3 : k ≤ 8) (h4 : ¬ (atKeyB s = true ∧ canKeyB k = false)) : placeE c s k = if 8 < s.length then 5 else 0 := by simp only [placeE]; rw [if_neg (by omega), if_neg (by omega), if_neg h4]

set_option maxRecDepth 100000 in
set_option maxHeartbeats 400000 in
theorem place_any {base b c : Nat} {s : List Lv} {v : Value} (k : Int) (w : World) (h : nestAt w base b c s v) :
    Calls Tryd.prog 55 #[.pointer (some ⟨b, 0, none⟩), .int .i64 k] w fun e w' => e = .returned (.int .i64 (placeE c s k)) ∧ ∃ m, w' = w.drewN m := by
  obtain ⟨a, cap, rfl⟩ := nest_len h
  have h0 := h.cnt
  have h1 := h.lv
  have hl := h.len
  have hc := h.c512
  have H := Lib.hid h
  clear h
  by_cases hA : 512 ≤ c
  · go_enter Tryd.func55, Tryd.ntmps55
    go_wp2_with fail
    go_ret
    exact ⟨ret_int (place8 hA).symm, 0, rfl⟩
  by_cases hB : k < 1
  · go_enter Tryd.func55, Tryd.ntmps55
    go_wp2_with fail
    go_ret
    exact ⟨ret_int (place3 (by omega) (.inl hB)).symm, 0, rfl⟩
  by_cases hC : 8 < k
  · go_enter Tryd.func55, Tryd.ntmps55
    go_wp2_with fail
    go_ret
    exact ⟨ret_int (place3 (by omega) (.inr hC)).symm, 0, rfl⟩
  by_cases hD : 8 < s.length
  · go_enter Tryd.func55, Tryd.ntmps55
    go_wp2_with (first | (go_at_call 59; refine (atKey_any _ H.out).mono ?_; rintro e w' ⟨rfl, m, rfl⟩) | (go_at_call 78; refine (canKey_any _ _).mono ?_; rintro e w' ⟨rfl, rfl⟩))
    all_goals go_ret
    all_goals first | exact ⟨ret_int (place3k (by omega) (by omega) (by omega) (by assumption) (by simpa using ‹(!canKeyB k) = true›)).symm, _, rfl⟩ | exact ⟨ret_int (by rw [place_lv (by omega) (by omega) (by omega) (by simp_all)]; simp [hD]), _, rfl⟩
  · go_enter Tryd.func55, Tryd.ntmps55
    go_wp2_with (first | (go_at_call 59; refine (atKey_any _ H.out).mono ?_; rintro e w' ⟨rfl, m, rfl⟩) | (go_at_call 78; refine (canKey_any _ _).mono ?_; rintro e w' ⟨rfl, rfl⟩))
    all_goals go_ret
    all_goals first | exact ⟨ret_int (place3k (by omega) (by omega) (by omega) (by assumption) (by simpa using ‹(!canKeyB k) = true›)).symm, _, rfl⟩ | exact ⟨ret_int (by rw [place_lv (by omega) (by omega) (by omega) (by simp_all)]; simp [hD]), _, rfl⟩

def shapeB (k n : Int) (d : ByteArray) : Bool :=
  if d.toList.isEmpty = false ∧ hasDataB k = false then false else if k = 3 ∨ k = 4 ∨ k = 8 then n == 0 else if k = 7 then decide (n ≤ 1) else true
theorem shape_bad {k n : Int} {d : ByteArray} (h : d.toList.isEmpty = false) (h2 : hasDataB k = false) : shapeB k n d = false := by simp only [shapeB]; rw [if_pos ⟨h, h2⟩]
theorem shape_sw {k n : Int} {d : ByteArray} (h : ¬ (d.toList.isEmpty = false ∧ hasDataB k = false)) : shapeB k n d = if k = 3 ∨ k = 4 ∨ k = 8 then n == 0 else if k = 7 then decide (n ≤ 1) else true := by simp only [shapeB]; rw [if_neg h]

set_option maxRecDepth 100000 in
set_option maxHeartbeats 400000 in
theorem shape_any (k n : Int) (d : ByteArray) (w : World) :
    Calls Tryd.prog 56 #[itemV k n d] w fun e w' => e = .returned (.bool (shapeB k n d)) ∧ w.alloc (.cells #[.int .i64 k, .int .u64 n, .string d] 58) = w' := by
  unfold itemV
  by_cases h3 : k = 3
  · subst h3
    go_enter Tryd.func56, Tryd.ntmps56
    go_wp2
    all_goals go_ret
    all_goals exact ⟨ret_bool (by rw [shape_sw (by simp [hasDataB])]; simp), rfl⟩
  by_cases h4 : k = 4
  · subst h4
    go_enter Tryd.func56, Tryd.ntmps56
    go_wp2
    all_goals go_ret
    all_goals exact ⟨ret_bool (by rw [shape_sw (by simp [hasDataB])]; simp), rfl⟩
  have hd : hasDataB k = false := by simp [hasDataB, h3, h4]
  by_cases he : d.toList.isEmpty = true
  · by_cases h8 : k = 8
    · subst h8
      go_enter Tryd.func56, Tryd.ntmps56
      go_wp2
      all_goals go_ret
      all_goals exact ⟨ret_bool (by rw [shape_sw (by simp [he])]; simp), rfl⟩
    by_cases h7 : k = 7
    · subst h7
      go_enter Tryd.func56, Tryd.ntmps56
      go_wp2
      all_goals go_ret
      all_goals exact ⟨ret_bool (by rw [shape_sw (by simp [he])]; simp), rfl⟩
    · go_enter Tryd.func56, Tryd.ntmps56
      go_wp2
      all_goals go_ret
      all_goals exact ⟨ret_bool (by rw [shape_sw (by simp [he])]; simp [h3, h4, h7, h8]), rfl⟩
  · have he2 : d.toList.isEmpty = false := by simpa using he
    clear he
    go_enter Tryd.func56, Tryd.ntmps56
    go_wp2_with (go_at_call 65; refine (hasData_any _ _).mono ?_; rintro e w' ⟨rfl, rfl⟩)
    all_goals go_ret
    all_goals exact ⟨ret_bool (shape_bad he2 hd).symm, rfl⟩
end Go.Proofs.YtepinmeidjlmmaaDoor
