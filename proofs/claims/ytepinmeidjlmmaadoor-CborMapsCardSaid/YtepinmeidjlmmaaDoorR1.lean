/- Joined: A1, A2, W, A3, A4, A5, Shelf. -/
import Derived.Test.YtepinmeidjlmmaaDoorRows
import Derived.WalkKit
import Derived.WalkSpells
import Derived.WalkLawsBesides
import Derived.Lib.Hide
import Derived.Deep.QuietTactic
import Derived.BigQuiet
import Derived.Deep.RegionHeld3
import Derived.Lib.AppendStr
import Derived.Lib.BytesEntry
import Derived.Shelf.Unicode.ValidAny
import Derived.Test.YtepinmeidjlmmaaDoorProg
namespace Go.Proofs.YtepinmeidjlmmaaDoor
open Go.RowKit

theorem ret_bool {a b : Bool} (h : a = b) : Ending.returned (.bool a) = .returned (.bool b) := by rw [h]
theorem ret_int {k : IntKind} {a b : Int} (h : a = b) : Ending.returned (.int k a) = .returned (.int k b) := by rw [h]

def hasDataB (k : Int) : Bool := k == 3 || k == 4
def tooManyB (k n : Int) : Bool := (k == 5 || k == 6) && decide (512 < n)
def tooLargeB (k n : Int) : Bool := (hasDataB k && decide (1024 < n)) || tooManyB k n
def partsN (k n : Int) : Int := if k = 5 then n else if k = 6 then 2 * n else 0
def canKeyB (k : Int) : Bool := k == 1 || k == 2 || k == 4
def argSz (n : Int) : Int := if n < 24 then 0 else if n < 256 then 1 else if n < 65536 then 2 else if n < 4294967296 then 4 else 8
def argN (k n : Int) (d : ByteArray) : Int := if hasDataB k = true then d.size else n
abbrev itemV (k n : Int) (d : ByteArray) : Value := .agg #[.int .i64 k, .int .u64 n, .string d]

set_option maxHeartbeats 400000 in
theorem hasData_any (k : Int) (w : World) :
    Calls Tryd.prog 65 #[.int .i64 k] w fun e w' => e = .returned (.bool (hasDataB k)) ∧ w = w' := by
  by_cases h3 : k = 3
  · subst h3
    go_enter Tryd.func65, Tryd.ntmps65
    go_wp2
    go_ret
    exact ⟨rfl, rfl⟩
  · by_cases h4 : k = 4
    · subst h4
      go_enter Tryd.func65, Tryd.ntmps65
      go_wp2
      go_ret
      exact ⟨rfl, rfl⟩
    · go_enter Tryd.func65, Tryd.ntmps65
      go_wp2
      go_ret
      exact ⟨ret_bool (by simp [hasDataB]), rfl⟩

set_option maxHeartbeats 400000 in
theorem canKey_any (k : Int) (w : World) :
    Calls Tryd.prog 78 #[.int .i64 k] w fun e w' => e = .returned (.bool (canKeyB k)) ∧ w = w' := by
  by_cases h1 : k = 1
  · subst h1
    go_enter Tryd.func78, Tryd.ntmps78
    go_wp2
    go_ret
    exact ⟨rfl, rfl⟩
  · by_cases h2 : k = 2
    · subst h2
      go_enter Tryd.func78, Tryd.ntmps78
      go_wp2
      go_ret
      exact ⟨rfl, rfl⟩
    · by_cases h4 : k = 4
      · subst h4
        go_enter Tryd.func78, Tryd.ntmps78
        go_wp2
        go_ret
        exact ⟨rfl, rfl⟩
      · go_enter Tryd.func78, Tryd.ntmps78
        go_wp2
        go_ret
        exact ⟨ret_bool (by simp [canKeyB]), rfl⟩

set_option maxHeartbeats 400000 in
theorem tooMany_any (k n : Int) (w : World) :
    Calls Tryd.prog 46 #[.int .i64 k, .int .u64 n] w fun e w' => e = .returned (.bool (tooManyB k n)) ∧ w = w' := by
  by_cases h5 : k = 5
  · subst h5
    go_enter Tryd.func46, Tryd.ntmps46
    go_wp2
    go_ret
    exact ⟨ret_bool (by simp [tooManyB]), rfl⟩
  · by_cases h6 : k = 6
    · subst h6
      go_enter Tryd.func46, Tryd.ntmps46
      go_wp2
      go_ret
      exact ⟨ret_bool (by simp [tooManyB]), rfl⟩
    · go_enter Tryd.func46, Tryd.ntmps46
      go_wp2
      go_ret
      exact ⟨ret_bool (by simp [tooManyB, h5, h6]), rfl⟩

set_option maxHeartbeats 400000 in
theorem tooLarge_any (k n : Int) (w : World) :
    Calls Tryd.prog 57 #[.int .i64 k, .int .u64 n] w fun e w' => e = .returned (.bool (tooLargeB k n)) ∧ w = w' := by
  go_enter Tryd.func57, Tryd.ntmps57
  go_wp2_with (first | (go_at_call 65; refine (hasData_any _ _).mono ?_; rintro e w' ⟨rfl, rfl⟩) | (go_at_call 46; refine (tooMany_any _ _ _).mono ?_; rintro e w' ⟨rfl, rfl⟩))
  all_goals go_ret
  all_goals exact ⟨ret_bool (by simp [tooLargeB, *]), rfl⟩

set_option maxHeartbeats 400000 in
theorem parts_any (k n : Int) (d : ByteArray) (w : World) (h0 : 0 ≤ n) (h : k = 6 → n ≤ 512) :
    Calls Tryd.prog 47 #[itemV k n d] w fun e w' => e = .returned (.int .u64 (partsN k n)) ∧ w.alloc (.cells #[.int .i64 k, .int .u64 n, .string d] 58) = w' := by
  unfold itemV
  by_cases h5 : k = 5
  · subst h5
    clear h
    go_enter Tryd.func47, Tryd.ntmps47
    go_wp2
    go_ret
    exact ⟨rfl, rfl⟩
  · by_cases h6 : k = 6
    · have h := h h6
      subst h6
      go_enter Tryd.func47, Tryd.ntmps47
      go_wp2
      go_ret
      exact ⟨rfl, rfl⟩
    · clear h
      go_enter Tryd.func47, Tryd.ntmps47
      go_wp2
      go_ret
      exact ⟨ret_int (by simp [partsN, h5, h6]), rfl⟩

set_option maxHeartbeats 400000 in
theorem argument_any (k n : Int) (d : ByteArray) (w : World) (hd : d.size ≤ maxLen) :
    Calls Tryd.prog 53 #[itemV k n d] w fun e w' => e = .returned (.int .u64 (argN k n d)) ∧ w.alloc (.cells #[.int .i64 k, .int .u64 n, .string d] 58) = w' := by
  unfold itemV
  unfold maxLen at hd
  go_enter Tryd.func53, Tryd.ntmps53
  go_wp2_with (first | (go_at_call 65; refine (hasData_any _ _).mono ?_; rintro e w' ⟨rfl, rfl⟩))
  all_goals go_ret
  all_goals exact ⟨ret_int (by simp [argN, *]), rfl⟩

theorem argSz0 {n : Int} (h : n < 24) : argSz n = 0 := by simp [argSz, h]
theorem argSz1 {n : Int} (h : 24 ≤ n) (h2 : n < 256) : argSz n = 1 := by simp only [argSz]; rw [if_neg (by omega), if_pos h2]
theorem argSz2 {n : Int} (h : 256 ≤ n) (h2 : n < 65536) : argSz n = 2 := by simp only [argSz]; rw [if_neg (by omega), if_neg (by omega), if_pos h2]
theorem argSz4 {n : Int} (h : 65536 ≤ n) (h2 : n < 4294967296) : argSz n = 4 := by simp only [argSz]; rw [if_neg (by omega), if_neg (by omega), if_neg (by omega), if_pos h2]
theorem argSz8 {n : Int} (h : 4294967296 ≤ n) : argSz n = 8 := by simp only [argSz]; rw [if_neg (by omega), if_neg (by omega), if_neg (by omega), if_neg (by omega)]
set_option maxHeartbeats 400000 in
theorem argSz_any (n : Int) (w : World) :
    Calls Tryd.prog 75 #[.int .u64 n] w fun e w' => e = .returned (.int .i64 (argSz n)) ∧ w = w' := by
  by_cases h1 : n < 24
  · go_enter Tryd.func75, Tryd.ntmps75
    go_wp2
    go_ret
    exact ⟨ret_int (argSz0 h1).symm, rfl⟩
  by_cases h2 : n < 256
  · go_enter Tryd.func75, Tryd.ntmps75
    go_wp2
    go_ret
    exact ⟨ret_int (argSz1 (by omega) h2).symm, rfl⟩
  by_cases h3 : n < 65536
  · go_enter Tryd.func75, Tryd.ntmps75
    go_wp2
    go_ret
    exact ⟨ret_int (argSz2 (by omega) h3).symm, rfl⟩
  by_cases h4 : n < 4294967296
  · go_enter Tryd.func75, Tryd.ntmps75
    go_wp2
    go_ret
    exact ⟨ret_int (argSz4 (by omega) h4).symm, rfl⟩
  · go_enter Tryd.func75, Tryd.ntmps75
    go_wp2
    go_ret
    exact ⟨ret_int (argSz8 (by omega)).symm, rfl⟩
end Go.Proofs.YtepinmeidjlmmaaDoor

namespace Go.Proofs.YtepinmeidjlmmaaDoor
open Go.RowKit

structure Lv where
  mp : Bool
  mi : Int
  lk : Int
  ln : Int
  ld : ByteArray

def Lv.cells (l : Lv) : List Value := [.bool l.mp, .int .u64 l.mi, .int .i64 l.lk, .int .u64 l.ln, .string l.ld]
/-- the stack's head is the innermost level, which lies last in memory -/
def stCells : List Lv → List Value
  | [] => []
  | t :: r => stCells r ++ t.cells
theorem stCells_len : ∀ s : List Lv, (stCells s).length = s.length * 5
  | [] => rfl
  | t :: r => by simp [stCells, stCells_len r, Lv.cells]; omega

structure nestAt (w : World) (base b c : Nat) (s : List Lv) (v : Value) : Prop where
  cnt : w.cell? ⟨b, 0, none⟩ = some (.int .i64 c)
  lv : w.cell? ⟨b, 1, none⟩ = some v
  fr0 : w.frozen? ⟨b, 0, none⟩ = false
  fr1 : w.frozen? ⟨b, 1, none⟩ = false
  own : w.ownsRow base 100 5 v s.length (stCells s)
  lt : b < base
  hb : base ≤ w.heap.size
  len : s.length ≤ 20
  c512 : c ≤ 600
  ok : ∀ l ∈ s, 0 ≤ l.mi ∧ l.mi ≤ 1024 ∧ l.ld.size ≤ 1024 ∧ 0 ≤ l.ln ∧ (l.lk = 0 ∨ l.lk = 1 ∨ l.lk = 2 ∨ l.lk = 4)

theorem nest_len {w : World} {base b c : Nat} {s : List Lv} {v : Value} (h : nestAt w base b c s v) : ∃ a cap, v = .slice a s.length cap := by
  obtain ⟨_, h2⟩ := h.own
  rcases h2 with ⟨h0, h1⟩ | ⟨g', cap', cur, hv, _⟩
  · exact ⟨none, 0, by rw [h0, h1]⟩
  · exact ⟨_, _, hv⟩
theorem nest_top {w : World} {base b c : Nat} {t : Lv} {r : List Lv} {v : Value} (h : nestAt w base b c (t :: r) v) : ∃ g cap, v = .slice (some ⟨g, 0, none⟩) (r.length + 1) cap ∧ base ≤ g ∧
    w.cell? ⟨g, r.length * 5, none⟩ = some (.bool t.mp) ∧ w.cell? ⟨g, r.length * 5 + 1, none⟩ = some (.int .u64 t.mi) ∧ w.cell? ⟨g, r.length * 5 + 2, none⟩ = some (.int .i64 t.lk) ∧ w.cell? ⟨g, r.length * 5 + 3, none⟩ = some (.int .u64 t.ln) ∧ w.cell? ⟨g, r.length * 5 + 4, none⟩ = some (.string t.ld) ∧
    ∀ j, w.frozen? ⟨g, j, none⟩ = false := by
  have hown := h.own
  obtain ⟨_, h2⟩ := h.own
  rcases h2 with ⟨h0, h1⟩ | ⟨g, cap, cur, rfl, hg, _⟩
  · exact absurd h1 (by simp)
  · have hc := fun j hj => hown.cellAt (j := j) hj
    have L := stCells_len r
    refine ⟨g, cap, rfl, hg, ?_, ?_, ?_, ?_, ?_, fun j => hown.frozenAt j⟩
    · rw [hc _ (by simp), stCells, List.getElem?_append_right (by omega), L, Nat.sub_self]; rfl
    · rw [hc _ (by simp; omega), stCells, List.getElem?_append_right (by omega), L, Nat.add_sub_cancel_left]; rfl
    · rw [hc _ (by simp; omega), stCells, List.getElem?_append_right (by omega), L, Nat.add_sub_cancel_left]; rfl
    · rw [hc _ (by simp; omega), stCells, List.getElem?_append_right (by omega), L, Nat.add_sub_cancel_left]; rfl
    · rw [hc _ (by simp; omega), stCells, List.getElem?_append_right (by omega), L, Nat.add_sub_cancel_left]; rfl

theorem emp_len (s : List Lv) : ((s.length : Int) == 0) = s.isEmpty := by cases s <;> simp; omega
def compB (c : Nat) (s : List Lv) : Bool := decide (0 < c) && s.isEmpty

set_option maxRecDepth 100000 in
set_option maxHeartbeats 400000 in
theorem complete_any {base b c : Nat} {s : List Lv} {v : Value} (w : World) (h : nestAt w base b c s v) :
    Calls Tryd.prog 41 #[.pointer (some ⟨b, 0, none⟩)] w fun e w' => e = .returned (.bool (compB c s)) ∧ w = w' := by
  obtain ⟨a, cap, rfl⟩ := nest_len h
  have h0 := h.cnt
  have h1 := h.lv
  have hl := h.len
  clear h
  go_enter Tryd.func41, Tryd.ntmps41
  go_wp2
  all_goals go_ret
  all_goals exact ⟨ret_bool (by simp [compB, *, emp_len]), rfl⟩

set_option maxRecDepth 100000 in
set_option maxHeartbeats 400000 in
theorem top_cell {b g n cap : Nat} (w : World) (h1 : w.cell? ⟨b, 1, none⟩ = some (.slice (some ⟨g, 0, none⟩) (n + 1) cap)) (hl : n ≤ 19) :
    Calls Tryd.prog 60 #[.pointer (some ⟨b, 0, none⟩)] w fun e w' => e = .returned (.pointer (some ⟨g, n * 5, none⟩)) ∧ ∃ m, w' = w.drewN m := by
  go_enter Tryd.func60, Tryd.ntmps60
  go_wp2
  go_quiet (fail)
  go_wp2
  go_ret
  exact ⟨rfl, _, rfl⟩

def atKeyB : List Lv → Bool
  | [] => false
  | t :: _ => t.mp && t.mi % 2 == 0

set_option maxRecDepth 100000 in
set_option maxHeartbeats 400000 in
theorem atKey_any {base b c : Nat} {s : List Lv} {v : Value} (w : World) (h : nestAt w base b c s v) :
    Calls Tryd.prog 59 #[.pointer (some ⟨b, 0, none⟩)] w fun e w' => e = .returned (.bool (atKeyB s)) ∧ ∃ m, w' = w.drewN m := by
  match s with
  | [] =>
    obtain ⟨a, cap, rfl⟩ := nest_len h
    have h1 := h.lv
    clear h
    go_enter Tryd.func59, Tryd.ntmps59
    go_wp2
    go_ret
    exact ⟨rfl, 0, rfl⟩
  | t :: r =>
    obtain ⟨g, cap, rfl, hg, c0, c1, c2, c3, c4, _⟩ := nest_top h
    have h1 := h.lv
    have hl := h.len
    obtain ⟨hmi0, hmi1, _⟩ := h.ok t (by simp)
    simp at hl
    clear h c2 c3 c4
    by_cases hm : t.mp = true
    · rw [hm] at c0
      go_enter Tryd.func59, Tryd.ntmps59
      go_wp2_with (go_at_call 60; refine (top_cell _ (by exact h1) hl).mono ?_; rintro e w' ⟨rfl, m, rfl⟩)
      all_goals go_ret
      all_goals exact ⟨ret_bool (by simp [atKeyB, hm]), _, rfl⟩
    · have hm2 : t.mp = false := by simpa using hm
      rw [hm2] at c0
      clear hm
      go_enter Tryd.func59, Tryd.ntmps59
      go_wp2_with (go_at_call 60; refine (top_cell _ (by exact h1) hl).mono ?_; rintro e w' ⟨rfl, m, rfl⟩)
      all_goals go_ret
      all_goals exact ⟨ret_bool (by simp [atKeyB, hm2]), _, rfl⟩

def placeE (c : Nat) (s : List Lv) (k : Int) : Int :=
  if 512 ≤ c then 8 else if k < 1 ∨ 8 < k then 3 else if atKeyB s = true ∧ canKeyB k = false then 3 else if 8 < s.length then 5 else 0

theorem place8 {c : Nat} {s : List Lv} {k : Int} (h : 512 ≤ c) : placeE c s k = 8 := by simp [placeE, h]
theorem place3 {c : Nat} {s : List Lv} {k : Int} (h : c < 512) (h2 : k < 1 ∨ 8 < k) : placeE c s k = 3 := by simp only [placeE]; rw [if_neg (by omega), if_pos h2]
theorem place3k {c : Nat} {s : List Lv} {k : Int} (h : c < 512) (h2 : 1 ≤ k) (h3 : k ≤ 8) (h4 : atKeyB s = true) (h5 : canKeyB k = false) : placeE c s k = 3 := by simp only [placeE]; rw [if_neg (by omega), if_neg (by omega), if_pos ⟨h4, h5⟩]
theorem place_lv {c : Nat} {s : List Lv} {k : Int} (h : c < 512) (h2 : 1 ≤ k) (h3 : k ≤ 8) (h4 : ¬ (atKeyB s = true ∧ canKeyB k = false)) : placeE c s k = if 8 < s.length then 5 else 0 := by simp only [placeE]; rw [if_neg (by omega), if_neg (by omega), if_neg h4]

set_option maxRecDepth 100000 in
set_option maxHeartbeats 400000 in
theorem place_any {base b c : Nat} {s : List Lv} {v : Value} (k : Int) (w : World) (h : nestAt w base b c s v) :
    Calls Tryd.prog 55 #[.pointer (some ⟨b, 0, none⟩), .int .i64 k] w fun e w' => e = .returned (.int .i64 (placeE c s k)) ∧ ∃ m, w' = w.drewN m := by
  obtain ⟨a, cap, rfl⟩ := nest_len h
  have h0 := h.cnt
  have h1 := h.lv
  have hl := h.len
  have hc := h.c512
  have H := Lib.hid h
  clear h
  by_cases hA : 512 ≤ c
  · go_enter Tryd.func55, Tryd.ntmps55
    go_wp2_with fail
    go_ret
    exact ⟨ret_int (place8 hA).symm, 0, rfl⟩
  by_cases hB : k < 1
  · go_enter Tryd.func55, Tryd.ntmps55
    go_wp2_with fail
    go_ret
    exact ⟨ret_int (place3 (by omega) (.inl hB)).symm, 0, rfl⟩
  by_cases hC : 8 < k
  · go_enter Tryd.func55, Tryd.ntmps55
    go_wp2_with fail
    go_ret
    exact ⟨ret_int (place3 (by omega) (.inr hC)).symm, 0, rfl⟩
  by_cases hD : 8 < s.length
  · go_enter Tryd.func55, Tryd.ntmps55
    go_wp2_with (first | (go_at_call 59; refine (atKey_any _ H.out).mono ?_; rintro e w' ⟨rfl, m, rfl⟩) | (go_at_call 78; refine (canKey_any _ _).mono ?_; rintro e w' ⟨rfl, rfl⟩))
    all_goals go_ret
    all_goals first | exact ⟨ret_int (place3k (by omega) (by omega) (by omega) (by assumption) (by simpa using ‹(!canKeyB k) = true›)).symm, _, rfl⟩ | exact ⟨ret_int (by rw [place_lv (by omega) (by omega) (by omega) (by simp_all)]; simp [hD]), _, rfl⟩
  · go_enter Tryd.func55, Tryd.ntmps55
    go_wp2_with (first | (go_at_call 59; refine (atKey_any _ H.out).mono ?_; rintro e w' ⟨rfl, m, rfl⟩) | (go_at_call 78; refine (canKey_any _ _).mono ?_; rintro e w' ⟨rfl, rfl⟩))
    all_goals go_ret
    all_goals first | exact ⟨ret_int (place3k (by omega) (by omega) (by omega) (by assumption) (by simpa using ‹(!canKeyB k) = true›)).symm, _, rfl⟩ | exact ⟨ret_int (by rw [place_lv (by omega) (by omega) (by omega) (by simp_all)]; simp [hD]), _, rfl⟩

def shapeB (k n : Int) (d : ByteArray) : Bool :=
  if d.toList.isEmpty = false ∧ hasDataB k = false then false else if k = 3 ∨ k = 4 ∨ k = 8 then n == 0 else if k = 7 then decide (n ≤ 1) else true
theorem shape_bad {k n : Int} {d : ByteArray} (h : d.toList.isEmpty = false) (h2 : hasDataB k = false) : shapeB k n d = false := by simp only [shapeB]; rw [if_pos ⟨h, h2⟩]
theorem shape_sw {k n : Int} {d : ByteArray} (h : ¬ (d.toList.isEmpty = false ∧ hasDataB k = false)) : shapeB k n d = if k = 3 ∨ k = 4 ∨ k = 8 then n == 0 else if k = 7 then decide (n ≤ 1) else true := by simp only [shapeB]; rw [if_neg h]

set_option maxRecDepth 100000 in
set_option maxHeartbeats 400000 in
theorem shape_any (k n : Int) (d : ByteArray) (w : World) :
    Calls Tryd.prog 56 #[itemV k n d] w fun e w' => e = .returned (.bool (shapeB k n d)) ∧ w.alloc (.cells #[.int .i64 k, .int .u64 n, .string d] 58) = w' := by
  unfold itemV
  by_cases h3 : k = 3
  · subst h3
    go_enter Tryd.func56, Tryd.ntmps56
    go_wp2
    all_goals go_ret
    all_goals exact ⟨ret_bool (by rw [shape_sw (by simp [hasDataB])]; simp), rfl⟩
  by_cases h4 : k = 4
  · subst h4
    go_enter Tryd.func56, Tryd.ntmps56
    go_wp2
    all_goals go_ret
    all_goals exact ⟨ret_bool (by rw [shape_sw (by simp [hasDataB])]; simp), rfl⟩
  have hd : hasDataB k = false := by simp [hasDataB, h3, h4]
  by_cases he : d.toList.isEmpty = true
  · by_cases h8 : k = 8
    · subst h8
      go_enter Tryd.func56, Tryd.ntmps56
      go_wp2
      all_goals go_ret
      all_goals exact ⟨ret_bool (by rw [shape_sw (by simp [he])]; simp), rfl⟩
    by_cases h7 : k = 7
    · subst h7
      go_enter Tryd.func56, Tryd.ntmps56
      go_wp2
      all_goals go_ret
      all_goals exact ⟨ret_bool (by rw [shape_sw (by simp [he])]; simp), rfl⟩
    · go_enter Tryd.func56, Tryd.ntmps56
      go_wp2
      all_goals go_ret
      all_goals exact ⟨ret_bool (by rw [shape_sw (by simp [he])]; simp [h3, h4, h7, h8]), rfl⟩
  · have he2 : d.toList.isEmpty = false := by simpa using he
    clear he
    go_enter Tryd.func56, Tryd.ntmps56
    go_wp2_with (go_at_call 65; refine (hasData_any _ _).mono ?_; rintro e w' ⟨rfl, rfl⟩)
    all_goals go_ret
    all_goals exact ⟨ret_bool (shape_bad he2 hd).symm, rfl⟩
end Go.Proofs.YtepinmeidjlmmaaDoor

namespace Go.Proofs.YtepinmeidjlmmaaDoor
open Go.RowKit

/-- Apart from blocks of cells of element type e, and new blocks, nothing has changed. -/
structure KeptT (e : TypeId) (w w' : World) : Prop where
  os : w'.os = w.os
  tape : w'.tape = w.tape
  output : w'.output = w.output
  size : w.heap.size ≤ w'.heap.size
  block : ∀ k, k < w.heap.size → (∀ cur fr, w.heap[k]? ≠ some (.cells cur e fr)) → w'.heap[k]? = w.heap[k]?

theorem KeptT.refl (e : TypeId) (w : World) : KeptT e w w := ⟨rfl, rfl, rfl, Nat.le_refl _, fun _ _ _ => rfl⟩
theorem KeptT.trans {e : TypeId} {a b c : World} (h : KeptT e a b) (k : KeptT e b c) : KeptT e a c :=
  ⟨k.os.trans h.os, k.tape.trans h.tape, k.output.trans h.output, Nat.le_trans h.size k.size, fun i hi hn => by
    have h1 := h.block i hi hn
    rw [k.block i (Nat.lt_of_lt_of_le hi h.size) (by rw [h1]; exact hn), h1]⟩
theorem KeptT.of_below {e : TypeId} {w w' : World} (h : Below w.heap.size w w') : KeptT e w w' := ⟨h.os, h.tape, h.output, h.size, fun k hk _ => h.block k hk⟩
theorem KeptT.alloc {e : TypeId} {a w : World} (h : KeptT e a w) (o : Obj) : KeptT e a (w.alloc o) := h.trans (.of_below ((Below.refl _ w).alloc (Nat.le_refl _) o))
theorem KeptT.drew {e : TypeId} {a w : World} (h : KeptT e a w) : KeptT e a w.drew := h.trans (.of_below (Below.refl _ w).drew)
theorem KeptT.drewN {e : TypeId} {a w : World} (h : KeptT e a w) (n : Nat) : KeptT e a (w.drewN n) := h.trans (.of_below (below_drewN (Below.refl _ w) n))
theorem KeptT.grown {e : TypeId} {w w' : World} {base size n : Nat} {v : Value} {xs : List Value} (hown : w.ownsRow base e size v n xs) (hg : w.grownBy w' v.ownBlock) : KeptT e w w' :=
  ⟨hg.os, hg.tape, hg.output, hg.size, fun k hk hn => hg.block k hk (fun he => by
    obtain ⟨_, h2⟩ := hown
    rcases h2 with ⟨h0, _⟩ | ⟨g, cap, cur, hv, _, hh, _⟩
    · rw [h0] at he; cases he
    · rw [hv] at he; cases he; exact hn _ _ hh)⟩
/-- a block of another element type is as it was -/
theorem KeptT.other {e t : TypeId} {w w' : World} (h : KeptT e w w') {k : Nat} {cs : Array Value} {fr : Nat × Nat} (hk : w.heap[k]? = some (.cells cs t fr)) (ht : t ≠ e) : w'.heap[k]? = some (.cells cs t fr) := by
  have hlt : k < w.heap.size := by
    rcases Nat.lt_or_ge k w.heap.size with h | h
    · exact h
    · rw [Array.getElem?_eq_none h] at hk; cases hk
  rw [h.block k hlt (by rw [hk]; intro cur f he; cases he; exact ht rfl), hk]
theorem below_of_grown {base e size n : Nat} {w w' : World} {v : Value} {xs : List Value} (hown : w.ownsRow base e size v n xs) (hb : base ≤ w.heap.size) (hg : w.grownBy w' v.ownBlock) : Below base w w' :=
  (Below.refl base w).grown hg hb fun k hk => (hown.lt k hk).1
theorem heap_new (w : World) (o : Obj) : (w.alloc o).heap[w.heap.size]? = some o := by
  show (w.heap.push o)[w.heap.size]? = _
  simp
theorem heap_new2 (w : World) (o o2 : Obj) : ((w.alloc o).alloc o2).heap[w.heap.size]? = some o := by
  rw [Below.heap_alloc _ _ _ (by simp)]; exact heap_new w o
theorem cell_of_block {w : World} {k j : Nat} {cs : Array Value} {t : TypeId} {fr : Nat × Nat} {v : Value} (h : w.heap[k]? = some (.cells cs t fr)) (hj : cs[j]? = some v) : w.cell? ⟨k, j, none⟩ = some v := by
  simp [World.cell?, h, hj]
/-- the box of an item -/
def itemCs (k n : Int) (d : ByteArray) : Array Value := #[.int .i64 k, .int .u64 n, .string d]
theorem kept_item {e : TypeId} {W w' : World} (hK : KeptT e W w') {B : Nat} {k n : Int} {d : ByteArray} {t : TypeId} (ht : t ≠ e) (hb : W.heap[B]? = some (.cells (itemCs k n d) t (0, 0))) :
    w'.heap[B]? = some (.cells (itemCs k n d) t (0, 0)) ∧ w'.cell? ⟨B, 0, none⟩ = some (.int .i64 k) ∧ w'.cell? ⟨B, 1, none⟩ = some (.int .u64 n) ∧ w'.cell? ⟨B, 2, none⟩ = some (.string d) := by
  have h := hK.other hb ht
  exact ⟨h, cell_of_block h rfl, cell_of_block h rfl, cell_of_block h rfl⟩
end Go.Proofs.YtepinmeidjlmmaaDoor

namespace Go.Proofs.YtepinmeidjlmmaaDoor
open Go.RowKit

structure TzTab (w : World) : Prop where
  z0 : w.cell? ⟨3, 0, none⟩ = some (.int .u8 0)
  z1 : w.cell? ⟨3, 1, none⟩ = some (.int .u8 1)
  z3 : w.cell? ⟨3, 3, none⟩ = some (.int .u8 2)
  z7 : w.cell? ⟨3, 7, none⟩ = some (.int .u8 3)
  hs : 4 ≤ w.heap.size

set_option maxRecDepth 100000 in
set_option maxHeartbeats 400000 in
theorem tz1 (w : World) (h : TzTab w) :
    Calls Tryd.prog 76 #[.int .u64 1] w fun e w' => e = .returned (.int .i64 0) ∧ w = w' := by
  have h0 := h.z0
  have b1 : bits BinOp.and IntKind.u64 1 (IntKind.u64.wrap (-1)) = 1 := by decide +kernel
  clear h
  go_enter Tryd.func76, Tryd.ntmps76
  go_wp2
  go_ret
  exact ⟨rfl, rfl⟩
set_option maxRecDepth 100000 in
set_option maxHeartbeats 400000 in
theorem tz2 (w : World) (h : TzTab w) :
    Calls Tryd.prog 76 #[.int .u64 2] w fun e w' => e = .returned (.int .i64 1) ∧ w = w' := by
  have h0 := h.z1
  have b1 : bits BinOp.and IntKind.u64 2 (IntKind.u64.wrap (-2)) = 2 := by decide +kernel
  clear h
  go_enter Tryd.func76, Tryd.ntmps76
  go_wp2
  go_ret
  exact ⟨rfl, rfl⟩
set_option maxRecDepth 100000 in
set_option maxHeartbeats 400000 in
theorem tz4 (w : World) (h : TzTab w) :
    Calls Tryd.prog 76 #[.int .u64 4] w fun e w' => e = .returned (.int .i64 2) ∧ w = w' := by
  have h0 := h.z3
  have b1 : bits BinOp.and IntKind.u64 4 (IntKind.u64.wrap (-4)) = 4 := by decide +kernel
  clear h
  go_enter Tryd.func76, Tryd.ntmps76
  go_wp2
  go_ret
  exact ⟨rfl, rfl⟩
set_option maxRecDepth 100000 in
set_option maxHeartbeats 400000 in
theorem tz8 (w : World) (h : TzTab w) :
    Calls Tryd.prog 76 #[.int .u64 8] w fun e w' => e = .returned (.int .i64 3) ∧ w = w' := by
  have h0 := h.z7
  have b1 : bits BinOp.and IntKind.u64 8 (IntKind.u64.wrap (-8)) = 8 := by decide +kernel
  clear h
  go_enter Tryd.func76, Tryd.ntmps76
  go_wp2
  go_ret
  exact ⟨rfl, rfl⟩
theorem info5 : (Tryd.prog.info? 5).map (fun i => (i.zero, i.size, i.bytes)) = some (some (.int .u8 0), 1, 1) := by kernel_rfl

/-- append(b, x) of one byte, b the call's own -/
theorem app_byte {ops : Array Oper} {rest : List Oper} {o : Oper} {a : Act} {Q : Exit → Act → World → Prop} {w : World} (hgd : o.guard = none) (s x : Operand)
    (ho : o.op = .call { callee := .builtin .append, args := #[s, x], argTypes := #[25, 25] })
    (base : Nat) (v : Value) (n : Nat) (xs : List Value) (u : Int) (hown : w.ownsRow base 5 1 v n xs) (hs : a.eval s = v)
    (B : Nat) (hx : a.eval x = .slice (some ⟨B, 0, none⟩) 1 1) (hB : B = w.heap.size) (hn : n ≤ 1000000000) (hb : base ≤ w.heap.size)
    (h : ∀ v' w', w'.ownsRow base 5 1 v' (n + 1) (xs ++ [.int .u8 u]) → Below base w w' → KeptT 5 w w' → wpList Tryd.prog ops Q rest (a.put o.dst v') w') :
    wpList Tryd.prog ops Q (o :: rest) a (w.alloc (.cells #[.int .u8 u] 5)) := by
  subst hB
  obtain ⟨i0, hi, hz0, hz1, hz2⟩ := info_parts info5
  refine wpList_append_own _ hgd s x 25 ho base 5 i0 (.int .u8 0) 1 1 Tryd.underlying25 hi hz0 hz1 hz2 rfl (by decide) v n xs hs (hown.alloc _) ⟨w.heap.size, 0, none⟩ 1 1 [.int .u8 u] hx rfl (cell_one_new _ _ _) (by simp [Value.oneCell']) (by unfold maxLen; omega) (by omega) (by simp; omega) ?_
  intro v' w' h1 h2 _
  exact h v' w' h1 (((Below.refl base w).alloc hb _).trans (below_of_grown (hown.alloc _) (by simp; omega) h2)) (((KeptT.refl 5 w).alloc _).trans (KeptT.grown (hown.alloc _) h2))

def beByte (n : Int) (s i : Nat) : Int := n / (2 : Int) ^ (8 * (s - 1 - i)) % 256
def beBytes (n : Int) (s k : Nat) : List Int := (List.range k).map (beByte n s)
theorem beBytes_succ (n : Int) (s k : Nat) : beBytes n s (k + 1) = beBytes n s k ++ [beByte n s k] := by simp [beBytes, List.range_succ]
def bv (l : List Int) : List Value := l.map (Value.int .u8)
theorem bv_app (a b : List Int) : bv (a ++ b) = bv a ++ bv b := by simp [bv]
theorem bv_one (a : Int) : bv [a] = [.int .u8 a] := rfl
theorem bv_len (a : List Int) : (bv a).length = a.length := by simp [bv]

theorem or_head (m n : Int) (hm0 : 0 ≤ m) (hm : m ≤ 5) (hn0 : 0 ≤ n) (hn : n < 32) : bits BinOp.or IntKind.u8 (m * 32) n = m * 32 + n := by
  have key : ∀ a : Fin 6, ∀ b : Fin 32, bits BinOp.or IntKind.u8 (((a.val : Nat) : Int) * 32) ((b.val : Nat) : Int) = ((a.val : Nat) : Int) * 32 + ((b.val : Nat) : Int) := by decide +kernel
  have := key ⟨m.toNat, by omega⟩ ⟨n.toNat, by omega⟩
  simpa [Int.toNat_of_nonneg hm0, Int.toNat_of_nonneg hn0] using this

def HeadPost (base : Nat) (w : World) (n : Nat) (xs : List Value) (e : Ending) (w' : World) : Prop := ∃ v', e = .returned v' ∧ w'.ownsRow base 5 1 v' n xs ∧ Below base w w' ∧ KeptT 5 w w'

set_option maxRecDepth 100000 in
set_option maxHeartbeats 400000 in
theorem head_small (base : Nat) (m n : Int) (v : Value) (len : Nat) (xs : List Value) (w : World) (hown : w.ownsRow base 5 1 v len xs) (hb : base ≤ w.heap.size) (hl : len ≤ 1000000) (hn0 : 0 ≤ n) (hn : n < 24) (hm0 : 0 ≤ m) (hm : m ≤ 5) :
    Calls Tryd.prog 52 #[v, .int .i64 m, .int .u64 n] w (HeadPost base w (len + 1) (xs ++ [.int .u8 (m * 32 + n)])) := by
  have hsz : Calls Tryd.prog 75 #[.int .u64 n] w fun e w' => e = .returned (.int .i64 0) ∧ w = w' := by have := argSz_any n w; rwa [argSz0 hn] at this
  have HS := Lib.hid hsz
  clear hsz
  go_enter Tryd.func52, Tryd.ntmps52
  go_wp2_with (first | (go_at_call 75; refine HS.out.mono ?_; rintro e w' ⟨rfl, rfl⟩) | (at_builtin; refine app_byte rfl _ _ rfl base v len xs _ hown rfl _ rfl rfl (by omega) hb ?_; intro v' w' ho' hbl hkt))
  go_ret
  exact ⟨v', rfl, by rw [← or_head m n hm0 hm hn0 (by omega)]; exact ho', hbl, hkt⟩

set_option maxRecDepth 100000 in
set_option maxHeartbeats 400000 in
theorem head_wide (s : Nat) (lg : Int) (hs1 : 1 ≤ s) (hs8 : s ≤ 8) (hlg0 : 0 ≤ lg) (hlg : lg ≤ 3) (base : Nat) (m n : Int) (v : Value) (len : Nat) (xs : List Value) (w : World)
    (hsz : Calls Tryd.prog 75 #[.int .u64 n] w fun e w' => e = .returned (.int .i64 s) ∧ w = w')
    (htz : Calls Tryd.prog 76 #[.int .u64 s] w fun e w' => e = .returned (.int .i64 lg) ∧ w = w')
    (hown : w.ownsRow base 5 1 v len xs) (hb : base ≤ w.heap.size) (hl : len ≤ 1000000) (_ : 0 ≤ n) (hm0 : 0 ≤ m) (hm : m ≤ 5) :
    Calls Tryd.prog 52 #[v, .int .i64 m, .int .u64 n] w (HeadPost base w (len + 1 + s) (xs ++ [.int .u8 (m * 32 + (24 + lg))] ++ bv (beBytes n s s))) := by
  have HS := Lib.hid hsz
  have HT := Lib.hid htz
  clear hsz htz
  go_enter Tryd.func52, Tryd.ntmps52
  go_wp2_with (first | (go_at_call 75; refine HS.out.mono ?_; rintro e w' ⟨rfl, rfl⟩) | (go_at_call 76; refine HT.out.mono ?_; rintro e w' ⟨rfl, rfl⟩) | (at_builtin; refine app_byte rfl _ _ rfl base v len xs _ hown rfl _ rfl rfl (by omega) hb ?_; intro v' w' ho' hbl hkt))
  rw [or_head m (24 + lg) hm0 hm (by omega) (by omega)] at ho'
  have HN := Lib.hid hown
  clear hown
  go_loopw [0, 9] (fun v i wr => ∃ k : Nat, k ≤ s ∧ i = .int .i64 (8 * ((s : Int) - 1 - k)) ∧ wr.ownsRow base 5 1 v (len + 1 + k) (xs ++ [.int .u8 (m * 32 + (24 + lg))] ++ bv (beBytes n s k)) ∧ Below base w wr ∧ KeptT 5 w wr) (fun _ i _ => (intOf i + 8).toNat)
  case atStart => exact ⟨0, by omega, by simp, by simpa [beBytes, bv] using ho', hbl, hkt⟩
  case round =>
    obtain ⟨k, hk, rfl, hok, hbk, hkk⟩ := hrel
    clear hbl hkt ho'
    have hbr : base ≤ wr.heap.size := Nat.le_trans hb hbk.size
    by_cases hlt : k < s
    · go_wp2_with (at_builtin; (refine app_byte rfl _ _ rfl base _ (len + 1 + k) _ _ hok rfl _ rfl rfl (by omega) hbr ?_); intro v2 w2 ho2 hb2 hk2)
      go_roundw
      case rel => exact ⟨k + 1, by omega, by go_num, by rw [beBytes_succ, bv_app, ← List.append_assoc]; exact ho2, hbk.trans hb2, hkk.trans hk2⟩
      case measure => simp [intOf]; omega
    · go_wp2
      go_ret
      obtain rfl : k = s := by omega
      exact ⟨_, rfl, hok, hbk, hkk⟩

def encHead (m n : Int) : List Int :=
  if n < 24 then [m * 32 + n] else if n < 256 then (m * 32 + (24 + 0)) :: beBytes n 1 1 else if n < 65536 then (m * 32 + (24 + 1)) :: beBytes n 2 2 else if n < 4294967296 then (m * 32 + (24 + 2)) :: beBytes n 4 4 else (m * 32 + (24 + 3)) :: beBytes n 8 8
theorem encHead0 {m n : Int} (h : n < 24) : encHead m n = [m * 32 + n] := by simp only [encHead]; rw [if_pos h]
theorem encHead1 {m n : Int} (h : 24 ≤ n) (h2 : n < 256) : encHead m n = (m * 32 + (24 + 0)) :: beBytes n 1 1 := by simp only [encHead]; rw [if_neg (by omega), if_pos h2]
theorem encHead2 {m n : Int} (h : 256 ≤ n) (h2 : n < 65536) : encHead m n = (m * 32 + (24 + 1)) :: beBytes n 2 2 := by simp only [encHead]; rw [if_neg (by omega), if_neg (by omega), if_pos h2]
theorem encHead4 {m n : Int} (h : 65536 ≤ n) (h2 : n < 4294967296) : encHead m n = (m * 32 + (24 + 2)) :: beBytes n 4 4 := by simp only [encHead]; rw [if_neg (by omega), if_neg (by omega), if_neg (by omega), if_pos h2]
theorem encHead8 {m n : Int} (h : 4294967296 ≤ n) : encHead m n = (m * 32 + (24 + 3)) :: beBytes n 8 8 := by simp only [encHead]; rw [if_neg (by omega), if_neg (by omega), if_neg (by omega), if_neg (by omega)]
theorem beBytes_len (n : Int) (s k : Nat) : (beBytes n s k).length = k := by simp [beBytes]
theorem encHead_len (m n : Int) : (encHead m n).length ≤ 9 := by
  by_cases h1 : n < 24
  · rw [encHead0 h1]; simp
  by_cases h2 : n < 256
  · rw [encHead1 (by omega) h2]; simp [beBytes_len]
  by_cases h3 : n < 65536
  · rw [encHead2 (by omega) h3]; simp [beBytes_len]
  by_cases h4 : n < 4294967296
  · rw [encHead4 (by omega) h4]; simp [beBytes_len]
  · rw [encHead8 (by omega)]; simp [beBytes_len]
theorem head_shape {base s len : Nat} {w : World} {xs : List Value} {a : Int} {l : List Int} {f : FuncId} {args : Array Value} (hs : l.length = s) (h : Calls Tryd.prog f args w (HeadPost base w (len + 1 + s) (xs ++ [.int .u8 a] ++ bv l))) :
    Calls Tryd.prog f args w (HeadPost base w (len + (a :: l).length) (xs ++ bv (a :: l))) := by
  have e1 : len + (a :: l).length = len + 1 + s := by simp; omega
  have e2 : xs ++ bv (a :: l) = xs ++ [.int .u8 a] ++ bv l := by simp [bv]
  rw [e1, e2]; exact h
theorem head_any (base : Nat) (m n : Int) (v : Value) (len : Nat) (xs : List Value) (w : World) (ht : TzTab w) (hown : w.ownsRow base 5 1 v len xs) (hb : base ≤ w.heap.size) (hl : len ≤ 1000000) (hn0 : 0 ≤ n) (hm0 : 0 ≤ m) (hm : m ≤ 5) :
    Calls Tryd.prog 52 #[v, .int .i64 m, .int .u64 n] w (HeadPost base w (len + (encHead m n).length) (xs ++ bv (encHead m n))) := by
  by_cases h1 : n < 24
  · rw [encHead0 h1]
    exact head_small base m n v len xs w hown hb hl hn0 h1 hm0 hm
  have sz := argSz_any n w
  by_cases h2 : n < 256
  · rw [argSz1 (by omega) h2] at sz
    rw [encHead1 (by omega) h2]
    exact head_shape (beBytes_len _ _ _) (head_wide 1 0 (by omega) (by omega) (by omega) (by omega) base m n v len xs w sz (tz1 w ht) hown hb hl hn0 hm0 hm)
  by_cases h3 : n < 65536
  · rw [argSz2 (by omega) h3] at sz
    rw [encHead2 (by omega) h3]
    exact head_shape (beBytes_len _ _ _) (head_wide 2 1 (by omega) (by omega) (by omega) (by omega) base m n v len xs w sz (tz2 w ht) hown hb hl hn0 hm0 hm)
  by_cases h4 : n < 4294967296
  · rw [argSz4 (by omega) h4] at sz
    rw [encHead4 (by omega) h4]
    exact head_shape (beBytes_len _ _ _) (head_wide 4 2 (by omega) (by omega) (by omega) (by omega) base m n v len xs w sz (tz4 w ht) hown hb hl hn0 hm0 hm)
  · rw [argSz8 (by omega)] at sz
    rw [encHead8 (by omega)]
    exact head_shape (beBytes_len _ _ _) (head_wide 8 3 (by omega) (by omega) (by omega) (by omega) base m n v len xs w sz (tz8 w ht) hown hb hl hn0 hm0 hm)
end Go.Proofs.YtepinmeidjlmmaaDoor

namespace Go.Proofs.YtepinmeidjlmmaaDoor
open Go.RowKit

/-- append(b, s...) of a string's bytes, b the call's own -/
theorem app_str {ops : Array Oper} {rest : List Oper} {o : Oper} {a : Act} {Q : Exit → Act → World → Prop} {w : World} (hgd : o.guard = none) (sl x : Operand)
    (ho : o.op = .call { callee := .builtin .append, args := #[sl, x], argTypes := #[25, 9] })
    (base : Nat) (v : Value) (n : Nat) (xs : List Value) (s : ByteArray) (hown : w.ownsRow base 5 1 v n xs) (hs : a.eval sl = v)
    (hx : a.eval x = .string s) (hn : n ≤ 1000000000) (hsz : s.size ≤ 1000000000) (hb : base ≤ w.heap.size)
    (h : ∀ v' w', w'.ownsRow base 5 1 v' (n + s.size) (xs ++ Lib.strCells s) → Below base w w' → KeptT 5 w w' → wpList Tryd.prog ops Q rest (a.put o.dst v') w') :
    wpList Tryd.prog ops Q (o :: rest) a w := by
  obtain ⟨i0, hi, hz0, hz1, hz2⟩ := info_parts info5
  refine Lib.wpList_append_own_string _ hgd sl x 25 9 ho base 5 i0 Tryd.underlying25 Tryd.underlying9 hi hz0 hz1 hz2 v n xs hs hown s hx (by unfold maxLen; omega) (by omega) hb ?_
  intro v' w' h1 h2 _
  exact h v' w' h1 (below_of_grown hown hb h2) (KeptT.grown hown h2)

def dataI (d : ByteArray) : List Int := d.data.toList.map fun b => (b.toNat : Int)
theorem dataI_cells (d : ByteArray) : bv (dataI d) = Lib.strCells d := by simp [bv, dataI, Lib.strCells]
def encItem (k n : Int) (d : ByteArray) : List Int := if k = 7 then [244 + n] else if k = 8 then [246] else encHead (k - 1) (argN k n d) ++ dataI d

set_option maxRecDepth 100000 in
set_option maxHeartbeats 400000 in
theorem appendItem_bool (base : Nat) (n : Int) (d : ByteArray) (v : Value) (len : Nat) (xs : List Value) (w : World) (hown : w.ownsRow base 5 1 v len xs) (hb : base ≤ w.heap.size) (hl : len ≤ 1000000) (hn0 : 0 ≤ n) (hn1 : n ≤ 1) :
    Calls Tryd.prog 37 #[v, itemV 7 n d] w (HeadPost base w (len + 1) (xs ++ [.int .u8 (244 + n)])) := by
  unfold itemV
  go_enter Tryd.func37, Tryd.ntmps37
  go_wp2_with (at_builtin; (refine app_byte rfl _ _ rfl base v len xs _ (hown.alloc _) rfl _ rfl (by simp) (by omega) (by simp; omega) ?_); intro v' w' ho' hbl hkt)
  go_ret
  exact ⟨v', rfl, ho', ((Below.refl base w).alloc hb _).trans hbl, ((KeptT.refl 5 w).alloc _).trans hkt⟩

set_option maxRecDepth 100000 in
set_option maxHeartbeats 400000 in
theorem appendItem_null (base : Nat) (n : Int) (d : ByteArray) (v : Value) (len : Nat) (xs : List Value) (w : World) (hown : w.ownsRow base 5 1 v len xs) (hb : base ≤ w.heap.size) (hl : len ≤ 1000000) :
    Calls Tryd.prog 37 #[v, itemV 8 n d] w (HeadPost base w (len + 1) (xs ++ [.int .u8 246])) := by
  unfold itemV
  go_enter Tryd.func37, Tryd.ntmps37
  go_wp2_with (at_builtin; (refine app_byte rfl _ _ rfl base v len xs _ (hown.alloc _) rfl _ rfl (by simp) (by omega) (by simp; omega) ?_); intro v' w' ho' hbl hkt)
  go_ret
  exact ⟨v', rfl, ho', ((Below.refl base w).alloc hb _).trans hbl, ((KeptT.refl 5 w).alloc _).trans hkt⟩

theorem TzTab.below {B : Nat} {w w' : World} (h : TzTab w) (hb : Below B w w') (hB : 4 ≤ B) : TzTab w' :=
  ⟨(hb.cell (p := ⟨3, 0, none⟩) (by show 3 < B; omega)).trans h.z0, (hb.cell (p := ⟨3, 1, none⟩) (by show 3 < B; omega)).trans h.z1, (hb.cell (p := ⟨3, 3, none⟩) (by show 3 < B; omega)).trans h.z3, (hb.cell (p := ⟨3, 7, none⟩) (by show 3 < B; omega)).trans h.z7, Nat.le_trans h.hs hb.size⟩

theorem TzTab.drew {w : World} (h : TzTab w) : TzTab w.drew := ⟨h.z0, h.z1, h.z3, h.z7, h.hs⟩

set_option maxRecDepth 100000 in
set_option maxHeartbeats 1000000 in
theorem appendItem_plain (base : Nat) (k n : Int) (d : ByteArray) (v : Value) (len : Nat) (xs : List Value) (w : World) (ht : TzTab w) (hown : w.ownsRow base 5 1 v len xs) (hb : base ≤ w.heap.size) (hl : len ≤ 900000) (hn0 : 0 ≤ n) (hk0 : 1 ≤ k) (hk1 : k ≤ 6) (hd : d.size ≤ 1100) :
    Calls Tryd.prog 37 #[v, itemV k n d] w (HeadPost base w (len + ((encHead (k - 1) (argN k n d)).length + d.size)) (xs ++ bv (encHead (k - 1) (argN k n d) ++ dataI d))) := by
  unfold itemV
  have hk2 : 0 ≤ k - 1 := by omega
  have hk3 : k - 1 ≤ 5 := by omega
  have hsum : IntKind.i64.wrap (k - 1) = k - 1 := IntWalk.i64_in _ (by omega)
  have hdm : d.size ≤ maxLen := by unfold maxLen; omega
  have harg : 0 ≤ argN k n d := by unfold argN; split <;> omega
  have hl' : len ≤ 1000000 := by omega
  have htt : TzTab ((w.alloc (.cells #[.int .i64 k, .int .u64 n, .string d] 58)).alloc (.cells #[.int .i64 k, .int .u64 n, .string d] 58)) := ht.below (((Below.refl _ w).alloc (Nat.le_refl _) _).alloc (by simp) _) ht.hs
  go_enter Tryd.func37, Tryd.ntmps37
  go_wp2_with fail
  go_region_held3 (fun W => W.heap[w.heap.size]? = some (.cells (itemCs k n d) 58 (0, 0)) ∧ W.cell? ⟨w.heap.size, 0, none⟩ = some (.int .i64 k) ∧ W.cell? ⟨w.heap.size, 1, none⟩ = some (.int .u64 n) ∧ W.cell? ⟨w.heap.size, 2, none⟩ = some (.string d))
    (first | (go_keep; done) | (refine ⟨?_, ?_, ?_, ?_⟩; (first | exact heap_new _ _ | exact heap_new2 _ _ _); go_keep; go_keep; go_keep) | (go_split_ands; exact kept_item hkt (by decide) (by assumption)))
    (first | (go_at_call 53; refine (argument_any _ _ _ _ hdm).mono ?_; rintro e w' ⟨rfl, rfl⟩) | (go_at_call 52; refine (head_any base _ _ v len xs _ (by exact htt.drew) (by exact ((hown.alloc _).alloc _)) (by simp; omega) hl' harg hk2 hk3).mono ?_; rintro e w' ⟨v', rfl, ho', hbl, hkt⟩))
  have hlen9 := encHead_len (k - 1) (argN k n d)
  have hbb : base ≤ w'.heap.size := by have h1 := hkt.size; simp at h1; omega
  go_split_ands
  go_wp2_with (at_builtin; refine app_str rfl _ _ rfl base v' _ _ d ho' rfl rfl (by omega) (by omega) hbb ?_; intro v2 w2 ho2 hb2 hk2)
  go_ret
  exact ⟨v2, rfl, by rw [bv_app, dataI_cells, ← List.append_assoc, ← Nat.add_assoc]; exact ho2, ((((Below.refl base w).alloc hb _).alloc (by simp; omega) _).drew.trans hbl).trans hb2, ((((KeptT.refl 5 w).alloc _).alloc _).drew.trans hkt).trans hk2⟩

theorem encItem7 (n : Int) (d : ByteArray) : encItem 7 n d = [244 + n] := rfl
theorem encItem8 (n : Int) (d : ByteArray) : encItem 8 n d = [246] := rfl
theorem encItemP {k n : Int} {d : ByteArray} (h1 : k ≤ 6) : encItem k n d = encHead (k - 1) (argN k n d) ++ dataI d := by
  unfold encItem; rw [if_neg (by omega), if_neg (by omega)]
theorem dataI_len (d : ByteArray) : (dataI d).length = d.size := by simp [dataI]

/-- appending the encoding of an item without errors -/
theorem appendItem_any (base : Nat) (k n : Int) (d : ByteArray) (v : Value) (len : Nat) (xs : List Value) (w : World) (ht : TzTab w) (hown : w.ownsRow base 5 1 v len xs) (hb : base ≤ w.heap.size) (hl : len ≤ 900000) (hn0 : 0 ≤ n) (hk0 : 1 ≤ k) (hk1 : k ≤ 8) (h7 : k = 7 → n ≤ 1) (hd : d.size ≤ 1100) :
    Calls Tryd.prog 37 #[v, itemV k n d] w (HeadPost base w (len + (encItem k n d).length) (xs ++ bv (encItem k n d))) := by
  by_cases e7 : k = 7
  · subst e7
    exact appendItem_bool base n d v len xs w hown hb (by omega) hn0 (h7 rfl)
  by_cases e8 : k = 8
  · subst e8
    exact appendItem_null base n d v len xs w hown hb (by omega)
  · rw [encItemP (by omega), List.length_append, dataI_len]
    exact appendItem_plain base k n d v len xs w ht hown hb hl hn0 hk0 (by omega) hd
end Go.Proofs.YtepinmeidjlmmaaDoor

namespace Go.Proofs.YtepinmeidjlmmaaDoor
open Go.RowKit

def cmpI (a b : Int) : Int := if a < b then -1 else if b < a then 1 else 0
theorem cmpI_lt {a b : Int} (h : a < b) : cmpI a b = -1 := by simp [cmpI, h]
theorem cmpI_gt {a b : Int} (h : b < a) : cmpI a b = 1 := by simp only [cmpI]; rw [if_neg (by omega), if_pos h]
theorem cmpI_eq {a b : Int} (h : b ≤ a) (h2 : a ≤ b) : cmpI a b = 0 := by simp only [cmpI]; rw [if_neg (by omega), if_neg (by omega)]

set_option maxRecDepth 100000 in
set_option maxHeartbeats 400000 in
theorem cmpInt_any (a b : Int) (w : World) : Calls Tryd.prog 90 #[.int .i64 a, .int .i64 b] w fun e w' => e = .returned (.int .i64 (cmpI a b)) ∧ w = w' := by
  go_enter Tryd.func90, Tryd.ntmps90
  go_wp2
  all_goals go_ret
  · exact ⟨ret_int (cmpI_lt (by assumption)).symm, rfl⟩
  · exact ⟨ret_int (cmpI_gt (by assumption)).symm, rfl⟩
  · exact ⟨ret_int (cmpI_eq (by assumption) (by assumption)).symm, rfl⟩

theorem run_bytesOf_row {P : Program} (w : World) (g n c : Nat) (xs : List Int) (hx : xs.length = n) (hc : ∀ i, i < n → w.cell? ⟨g, i, none⟩ = some (.int .u8 (xs.getD i 0))) :
    (Extern.Bytes.bytesOf (.slice (some ⟨g, 0, none⟩) n c)).run P w = .ok ⟨(Lib.bytesOf xs).toArray⟩ w := by
  have hl := Lib.run_loadBytesX (P := P) w xs ⟨g, 0, none⟩ .empty (fun j x hj => by
    have hjl : j < xs.length := (List.getElem?_eq_some_iff.1 hj).1
    have e : (⟨g, 0, none⟩ : Addr).add j = ⟨g, j, none⟩ := by unfold Addr.add; split <;> simp_all
    rw [e, hc j (by omega), List.getD_eq_getElem?_getD, hj]
    rfl)
  rw [hx] at hl
  have he : (⟨ByteArray.empty.data ++ (Lib.bytesOf xs).toArray⟩ : ByteArray) = ⟨(Lib.bytesOf xs).toArray⟩ := by
    apply ByteArray.ext
    show (#[] : Array UInt8) ++ (Lib.bytesOf xs).toArray = (Lib.bytesOf xs).toArray
    simp
  rw [he] at hl
  exact hl

def cmpB (xs ys : List Int) : Int := Lib.compareBytes (Lib.bytesOf xs) (Lib.bytesOf ys)

set_option maxRecDepth 100000 in
set_option maxHeartbeats 400000 in
theorem bytesCmp_any (g n c g2 n2 c2 : Nat) (xs ys : List Int) (w : World) (hx : xs.length = n) (hy : ys.length = n2)
    (hc : ∀ i, i < n → w.cell? ⟨g, i, none⟩ = some (.int .u8 (xs.getD i 0))) (hc2 : ∀ i, i < n2 → w.cell? ⟨g2, i, none⟩ = some (.int .u8 (ys.getD i 0))) :
    Calls Tryd.prog 91 #[.slice (some ⟨g, 0, none⟩) n c, .slice (some ⟨g2, 0, none⟩) n2 c2] w fun e w' => e = .returned (.int .i64 (cmpB xs ys)) ∧ w = w' := by
  have h1 := run_bytesOf_row (P := Tryd.prog) w g n c xs hx hc
  have h2 := run_bytesOf_row (P := Tryd.prog) w g2 n2 c2 ys hy hc2
  have hr : (Extern.BytealgCompare.compare #[.slice (some ⟨g, 0, none⟩) n c, .slice (some ⟨g2, 0, none⟩) n2 c2]).run Tryd.prog w = .ok (.int .i64 (cmpB xs ys)) w := by
    change Sem.run Tryd.prog (do pure (goInt (Extern.BytealgCompare.cmp (← Extern.Bytes.bytesOf (.slice (some ⟨g, 0, none⟩) n c)) (← Extern.Bytes.bytesOf (.slice (some ⟨g2, 0, none⟩) n2 c2))))) w = _
    simp only [Sem.run_bind, Sem.run_pure, Result.andThen, h1, h2]
    rw [Lib.cmp_eq]
    rfl
  have HR := Lib.hid hr
  clear hr h1 h2 hc hc2 hx hy
  go_enter Tryd.func91, Tryd.ntmps91
  go_wp2
  rw [run_callFunc_extern Tryd.func103 (by kernel_rfl) (by kernel_rfl) (by kernel_rfl) (e := Extern.BytealgCompare.compare) (by kernel_rfl), HR.out]
  simp only [Result.andThen]
  rw [Oper.upon_value]
  go_wp2
  go_ret
  exact ⟨rfl, rfl⟩

def orI (a b : Int) : Int := if a = 0 then b else a
theorem orI_l {a b : Int} (h : ¬ a = 0) : orI a b = a := by simp [orI, h]
theorem orI_r {a b : Int} (h : a = 0) : orI a b = b := by simp [orI, h]
set_option maxRecDepth 100000 in
set_option maxHeartbeats 400000 in
theorem or_any (B : Nat) (a b : Int) (w : World) (h0 : w.cell? ⟨B, 0, none⟩ = some (.int .i64 a)) (h1 : w.cell? ⟨B, 1, none⟩ = some (.int .i64 b)) :
    Calls Tryd.prog 89 #[.slice (some ⟨B, 0, none⟩) 2 2] w fun e w' => e = .returned (.int .i64 (orI a b)) ∧ w = w' := by
  by_cases ha : a = 0
  · rw [orI_r ha]
    subst ha
    by_cases hb : b = 0
    · subst hb
      go_enter Tryd.func89, Tryd.ntmps89
      go_wp2
      go_loop [8] (fun i => ∃ k : Nat, k ≤ 2 ∧ i = .int .i64 k) (fun i => 2 - (intOf i).toNat)
      case atStart => exact ⟨0, by omega, rfl⟩
      case round =>
        obtain ⟨k, hk, rfl⟩ := hrel
        have hk3 : k = 0 ∨ k = 1 ∨ k = 2 := by omega
        rcases hk3 with rfl | rfl | rfl
        · go_wp2
          go_round
          case rel => exact ⟨1, by omega, rfl⟩
          case measure => simp [intOf]
        · go_wp2
          go_round
          case rel => exact ⟨2, by omega, rfl⟩
          case measure => simp [intOf]
        · go_wp2
          go_ret
          exact ⟨rfl, rfl⟩
    · have hbb : (b != 0) = true := by rw [bne_iff_ne]; exact hb
      clear hb
      go_enter Tryd.func89, Tryd.ntmps89
      go_wp2
      go_loop [8] (fun i => ∃ k : Nat, k ≤ 1 ∧ i = .int .i64 k) (fun i => 2 - (intOf i).toNat)
      case atStart => exact ⟨0, by omega, rfl⟩
      case round =>
        obtain ⟨k, hk, rfl⟩ := hrel
        have hk3 : k = 0 ∨ k = 1 := by omega
        rcases hk3 with rfl | rfl
        · go_wp2
          go_round
          case rel => exact ⟨1, by omega, rfl⟩
          case measure => simp [intOf]
        · go_wp2
          go_ret
          exact ⟨rfl, rfl⟩
  · rw [orI_l ha]
    have haa : (a != 0) = true := by rw [bne_iff_ne]; exact ha
    clear ha
    go_enter Tryd.func89, Tryd.ntmps89
    go_wp2
    go_loop [8] (fun i => i = .int .i64 0) (fun i => 2 - (intOf i).toNat)
    case atStart => exact rfl
    case round =>
      obtain rfl := hrel
      go_wp2
      go_ret
      exact ⟨rfl, rfl⟩

theorem or_new (a b : Int) (t : TypeId) (w : World) :
    Calls Tryd.prog 89 #[.slice (some ⟨w.heap.size, 0, none⟩) 2 2] (w.alloc (.cells #[.int .i64 a, .int .i64 b] t)) fun e w' => e = .returned (.int .i64 (orI a b)) ∧ w.alloc (.cells #[.int .i64 a, .int .i64 b] t) = w' :=
  or_any _ a b _ (by simp) (by simp)

/-- the encoding of one item onto nil: a new row -/
theorem appendItem_nil (k n : Int) (d : ByteArray) (w : World) (ht : TzTab w) (hn0 : 0 ≤ n) (hk0 : 1 ≤ k) (hk1 : k ≤ 8) (h7 : k = 7 → n ≤ 1) (hd : d.size ≤ 1100) :
    Calls Tryd.prog 37 #[.slice none 0 0, itemV k n d] w fun e w' => ∃ v, e = .returned v ∧ w'.ownsRow w.heap.size 5 1 v (encItem k n d).length (bv (encItem k n d)) ∧ Below w.heap.size w w' := by
  refine (appendItem_any w.heap.size k n d (.slice none 0 0) 0 [] w ht (World.ownsRow_nil _ _ _ _) (Nat.le_refl _) (by omega) hn0 hk0 hk1 h7 hd).mono ?_
  rintro e w' ⟨v, rfl, ho, hb, _⟩
  exact ⟨v, rfl, by simpa using ho, hb⟩

theorem encItem_pos (k n : Int) (d : ByteArray) : 0 < (encItem k n d).length := by
  unfold encItem; split
  · simp
  · split
    · simp
    · have : 0 < (encHead (k - 1) (argN k n d)).length := by
        unfold encHead; split; · simp
        split; · simp
        split; · simp
        split <;> simp
      simp; omega

theorem encItem_len (k n : Int) (d : ByteArray) : (encItem k n d).length ≤ 10 + d.size := by
  unfold encItem; split
  · simp; omega
  · split
    · simp; omega
    · have := encHead_len (k - 1) (argN k n d)
      simp [dataI_len]; omega
theorem own_slice {w : World} {base n : Nat} {v : Value} {xs : List Value} (h : w.ownsRow base 5 1 v n xs) (hn : 0 < n) : ∃ g cap, v = .slice (some ⟨g, 0, none⟩) n cap ∧ base ≤ g ∧ g < w.heap.size := by
  have hl := h.lt
  obtain ⟨_, h2⟩ := h
  rcases h2 with ⟨_, h1⟩ | ⟨g, cap, cur, rfl, hg, _⟩
  · omega
  · exact ⟨g, cap, rfl, hg, (hl g rfl).2⟩
theorem own_cells {w : World} {base g n cap : Nat} {l : List Int} (h : w.ownsRow base 5 1 (.slice (some ⟨g, 0, none⟩) n cap) n (bv l)) : ∀ i, i < n → w.cell? ⟨g, i, none⟩ = some (.int .u8 (l.getD i 0)) := by
  intro i hi
  have hl : l.length = n := by have := h.1; simpa [bv] using this
  rw [h.cellAt i (by omega), bv, List.getElem?_map, List.getD_eq_getElem?_getD, List.getElem?_eq_getElem (by omega)]
  rfl
theorem own_below {w w' : World} {base e size n : Nat} {v : Value} {xs : List Value} (h : w.ownsRow base e size v n xs) (hb : Below w.heap.size w w') : w'.ownsRow base e size v n xs :=
  h.kept (row := none) ⟨hb.os, hb.tape, hb.output, hb.size, fun k hk _ => hb.block k hk⟩ (by
    cases hv : v.ownBlock with
    | none => exact .inl rfl
    | some g => exact .inr (by simp))

theorem heap_new3 (w : World) (o o2 : Obj) : ((w.alloc o).alloc o2).heap[w.heap.size + 1]? = some o2 := by
  have h := heap_new (w.alloc o) o2
  rw [show (w.alloc o).heap.size = w.heap.size + 1 from by simp] at h
  exact h

def CmpS (B : Nat) (k1 n1 : Int) (d1 : ByteArray) (k2 n2 : Int) (d2 : ByteArray) (W : World) : Prop :=
  TzTab W ∧ W.heap[B]? = some (.cells (itemCs k1 n1 d1) 58 (0, 0)) ∧ W.heap[B + 1]? = some (.cells (itemCs k2 n2 d2) 58 (0, 0)) ∧
  W.cell? ⟨B, 0, none⟩ = some (.int .i64 k1) ∧ W.cell? ⟨B, 1, none⟩ = some (.int .u64 n1) ∧ W.cell? ⟨B, 2, none⟩ = some (.string d1) ∧
  W.cell? ⟨B + 1, 0, none⟩ = some (.int .i64 k2) ∧ W.cell? ⟨B + 1, 1, none⟩ = some (.int .u64 n2) ∧ W.cell? ⟨B + 1, 2, none⟩ = some (.string d2)
theorem CmpS.mk' {B : Nat} {k1 n1 : Int} {d1 : ByteArray} {k2 n2 : Int} {d2 : ByteArray} {W : World} (t : TzTab W) (h1 : W.heap[B]? = some (.cells (itemCs k1 n1 d1) 58 (0, 0))) (h2 : W.heap[B + 1]? = some (.cells (itemCs k2 n2 d2) 58 (0, 0))) : CmpS B k1 n1 d1 k2 n2 d2 W :=
  ⟨t, h1, h2, cell_of_block h1 rfl, cell_of_block h1 rfl, cell_of_block h1 rfl, cell_of_block h2 rfl, cell_of_block h2 rfl, cell_of_block h2 rfl⟩
theorem CmpS.step {B : Nat} {k1 n1 : Int} {d1 : ByteArray} {k2 n2 : Int} {d2 : ByteArray} {W W' : World} (h : CmpS B k1 n1 d1 k2 n2 d2 W) (hb : Below W.heap.size W W') : CmpS B k1 n1 d1 k2 n2 d2 W' := by
  have hlt : ∀ {i : Nat} {o : Obj}, W.heap[i]? = some o → i < W.heap.size := fun {i o} h => by
    rcases Nat.lt_or_ge i W.heap.size with h' | h'
    · exact h'
    · rw [Array.getElem?_eq_none h'] at h; cases h
  exact CmpS.mk' (h.1.below hb h.1.hs) ((hb.block _ (hlt h.2.1)).trans h.2.1) ((hb.block _ (hlt h.2.2.1)).trans h.2.2.1)

def cmpEnc (a b : List Int) : Int := orI (cmpI a.length b.length) (cmpB a b)

set_option maxRecDepth 100000 in
set_option maxHeartbeats 1000000 in
theorem cmpEnc_any (k1 n1 : Int) (d1 : ByteArray) (k2 n2 : Int) (d2 : ByteArray) (w : World) (ht : TzTab w)
    (hn0 : 0 ≤ n1) (hk0 : 1 ≤ k1) (hk1 : k1 ≤ 8) (h7 : k1 = 7 → n1 ≤ 1) (hd : d1.size ≤ 1100) (hn02 : 0 ≤ n2) (hk02 : 1 ≤ k2) (hk12 : k2 ≤ 8) (h72 : k2 = 7 → n2 ≤ 1) (hd2 : d2.size ≤ 1100) :
    Calls Tryd.prog 79 #[itemV k1 n1 d1, itemV k2 n2 d2] w fun e w' => e = .returned (.int .i64 (cmpEnc (encItem k1 n1 d1) (encItem k2 n2 d2))) ∧ Below w.heap.size w w' := by
  have C1 := fun (W : World) (hW : TzTab W) => appendItem_nil k1 n1 d1 W hW hn0 hk0 hk1 h7 hd
  have C2 := fun (W : World) (hW : TzTab W) => appendItem_nil k2 n2 d2 W hW hn02 hk02 hk12 h72 hd2
  have H1 := Lib.hid C1
  have H2 := Lib.hid C2
  have S0 : CmpS w.heap.size k1 n1 d1 k2 n2 d2 ((w.alloc (.cells #[.int .i64 k1, .int .u64 n1, .string d1] 58)).alloc (.cells #[.int .i64 k2, .int .u64 n2, .string d2] 58)) :=
    CmpS.mk' (ht.below (((Below.refl _ w).alloc (Nat.le_refl _) _).alloc (by simp) _) ht.hs) (heap_new2 _ _ _) (heap_new3 _ _ _)
  have HS0 := Lib.hid S0
  have HT := Lib.hid ht
  clear C1 C2 S0 ht h7 h72
  unfold itemV
  go_enter Tryd.func79, Tryd.ntmps79
  go_wp2_with fail
  go_region_held3 (fun W => TzTab W ∧ W.heap[w.heap.size]? = some (.cells (itemCs k1 n1 d1) 58 (0, 0)) ∧ W.heap[w.heap.size + 1]? = some (.cells (itemCs k2 n2 d2) 58 (0, 0)) ∧ W.cell? ⟨w.heap.size, 0, none⟩ = some (.int .i64 k1) ∧ W.cell? ⟨w.heap.size, 1, none⟩ = some (.int .u64 n1) ∧ W.cell? ⟨w.heap.size, 2, none⟩ = some (.string d1) ∧ W.cell? ⟨w.heap.size + 1, 0, none⟩ = some (.int .i64 k2) ∧ W.cell? ⟨w.heap.size + 1, 1, none⟩ = some (.int .u64 n2) ∧ W.cell? ⟨w.heap.size + 1, 2, none⟩ = some (.string d2))
    (first | (exact CmpS.step HS0.out (Below.refl _ _).drew) | (exact CmpS.step (by assumption) (by assumption)))
    (first | (go_at_call 37; (with_reducible refine (H1.out _ (And.left (by assumption))).mono ?_); rintro e w1 ⟨v1, rfl, ho1, hb1⟩) | (go_at_call 37; (with_reducible refine (H2.out _ (And.left (by assumption))).mono ?_); rintro e w2 ⟨v2, rfl, ho2, hb2⟩))
  have p1 := encItem_pos k1 n1 d1
  have p2 := encItem_pos k2 n2 d2
  obtain ⟨g1, cap1, rfl, hg1, hl1⟩ := own_slice ho1 p1
  obtain ⟨g2, cap2, rfl, hg2, hl2⟩ := own_slice ho2 p2
  have cc1 := own_cells (own_below ho1 hb2)
  have cc2 := own_cells ho2
  have L1 := encItem_len k1 n1 d1
  have L2 := encItem_len k2 n2 d2
  have HC := fun (wx : World) (hx : Below w2.heap.size w2 wx) => bytesCmp_any g1 _ cap1 g2 _ cap2 (encItem k1 n1 d1) (encItem k2 n2 d2) wx rfl rfl (fun i hi => (hx.cell (p := ⟨g1, i, none⟩) (by have := hb2.size; show g1 < _; omega)).trans (cc1 i hi)) (fun i hi => (hx.cell (p := ⟨g2, i, none⟩) (by show g2 < _; omega)).trans (cc2 i hi))
  have HCc := Lib.hid HC
  have HO1 := Lib.hid ho1
  have HO2 := Lib.hid ho2
  go_split_ands
  clear HC cc1 cc2 ho1 ho2
  go_wp2_with (first | (go_at_call 90; refine (cmpInt_any _ _ _).mono ?_; rintro e w' ⟨rfl, rfl⟩) | (go_at_call 91; refine (HCc.out _ (Below.refl _ _)).mono ?_; rintro e w' ⟨rfl, rfl⟩) | (go_at_call 89; refine (or_new _ _ _ _).mono ?_; rintro e w' ⟨rfl, rfl⟩))
  go_ret
  exact ⟨rfl, by
    have h0 : Below w.heap.size w ((w.alloc (.cells #[.int .i64 k1, .int .u64 n1, .string d1] 58)).alloc (.cells #[.int .i64 k2, .int .u64 n2, .string d2] 58)).drew := (((Below.refl _ w).alloc (Nat.le_refl _) _).alloc (by simp) _).drew
    have s0 := h0.size
    have h1 := h0.trans (hb1.mono s0)
    have h2 := h1.trans (hb2.mono h1.size)
    exact h2.alloc h2.size _⟩
end Go.Proofs.YtepinmeidjlmmaaDoor

/- What the shelf's tools print of this program: utf8.ValidString's closure lies in it. -/
namespace Go.Proofs.YtepinmeidjlmmaaDoor
open Go.Shelf
def Tryd.lays196_ren : Go.Shelf.Ren := ⟨fun | 196 => 69 | 259 => 82 | n => n, fun | 9 => 9 | 4 => 4 | 3 => 3 | 5 => 5 | 12 => 12 | 119 => 126 | 0 => 0 | 46 => 43 | 139 => 129 | 138 => 128 | 53 => 45 | n => n, fun | 3 => 0 | 4 => 1 | n => n⟩
theorem Tryd.lays196 : Go.Proofs.Lays.n196 Tryd.prog Tryd.lays196_ren := {
  mixed := by kernel_rfl
  f196 := Tryd.func69.trans (congrArg some (by kernel_rfl))
  f259 := Tryd.func82.trans (congrArg some (by kernel_rfl))
  t0 := Tryd.underlying0
  a0 := Tryd.isAgg0
  z0 := Tryd.sizeOf0
  v0 := Tryd.zeroValue0
  t3 := Tryd.underlying3
  a3 := Tryd.isAgg3
  z3 := Tryd.sizeOf3
  v3 := Tryd.zeroValue3
  t4 := Tryd.underlying4
  a4 := Tryd.isAgg4
  z4 := Tryd.sizeOf4
  v4 := Tryd.zeroValue4
  t5 := Tryd.underlying5
  a5 := Tryd.isAgg5
  z5 := Tryd.sizeOf5
  v5 := Tryd.zeroValue5
  t9 := Tryd.underlying9
  a9 := Tryd.isAgg9
  z9 := Tryd.sizeOf9
  v9 := Tryd.zeroValue9
  t12 := Tryd.underlying12
  a12 := Tryd.isAgg12
  z12 := Tryd.sizeOf12
  v12 := Tryd.zeroValue12
  t46 := Tryd.underlying43
  a46 := Tryd.isAgg43
  z46 := Tryd.sizeOf43
  v46 := Tryd.zeroValue43
  t53 := Tryd.underlying45
  a53 := Tryd.isAgg45
  z53 := Tryd.sizeOf45
  v53 := Tryd.zeroValue45
  t119 := Tryd.underlying126
  a119 := Tryd.isAgg126
  z119 := Tryd.sizeOf126
  t138 := Tryd.underlying128
  a138 := Tryd.isAgg128
  z138 := Tryd.sizeOf128
  v138 := Tryd.zeroValue128
  t139 := Tryd.underlying129
  a139 := Tryd.isAgg129
  z139 := Tryd.sizeOf129
  v139 := Tryd.zeroValue129
  g3 := by kernel_rfl
  g4 := by kernel_rfl }

open Go.RowKit
/-- what utf8.ValidString reads -/
def U8Tab (w : World) : Prop := Lib.Utf8Tabs 0 1 w
theorem valid_any (s : ByteArray) (w : World) (hs : s.size ≤ 9223372036854775807) (hT : U8Tab w) :
    Calls Tryd.prog 69 #[.string s] w fun e w' => e = .returned (.bool (Lib.validD s.data.toList)) ∧ Below w.heap.size w w' :=
  Any.utf8_ValidString Tryd.lays196 s w hs hT
theorem U8Tab.below {B : Nat} {w w' : World} (h : U8Tab w) (hb : Below B w w') (hB : 4 ≤ B) : U8Tab w' :=
  ⟨fun c hc => (hb.cell (p := ⟨0, c, none⟩) (by show 0 < B; omega)).trans (h.1 c hc), fun i hi => ⟨(hb.cell (p := ⟨1, 2 * i, none⟩) (by show 1 < B; omega)).trans (h.2 i hi).1, (hb.cell (p := ⟨1, 2 * i + 1, none⟩) (by show 1 < B; omega)).trans (h.2 i hi).2⟩⟩
end Go.Proofs.YtepinmeidjlmmaaDoor
