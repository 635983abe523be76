import Derived.Test.YtepinmeidjlmmaaDoorRows
import Derived.WalkKit
import Derived.WalkSpells
import Derived.WalkLawsBesides
import Derived.Lib.Hide
import Derived.Deep.QuietTactic
import Derived.BigQuiet
namespace Go.Proofs.YtepinmeidjlmmaaDoor
open Go.RowKit

theorem ret_bool {a b : Bool} (h : a = b) : Ending.returned (.bool a) = .returned (.bool b) := by rw [h]
theorem ret_int {k : IntKind} {a b : Int} (h : a = b) : Ending.returned (.int k a) = .returned (.int k b) := by rw [h]

def hasDataB (k : Int) : Bool := k == 3 || k == 4
def tooManyB (k n : Int) : Bool := (k == 5 || k == 6) && decide (512 < n)
def tooLargeB (k n : Int) : Bool := (hasDataB k && decide (1024 < n)) || tooManyB k n
def partsN (k n : Int) : Int := if k = 5 then n else if k = 6 then 2 * n else 0
def canKeyB (k : Int) : Bool := k == 1 || k == 2 || k == 4
def argSz (n : Int) : Int := if n < 24 then 0 else if n < 256 then 1 else if n < 65536 then 2 else if n < 4294967296 then 4 else 8
def argN (k n : Int) (d : ByteArray) : Int := if hasDataB k = true then d.size else n
abbrev itemV (k n : Int) (d : ByteArray) : Value := .agg #[.int .i64 k, .int .u64 n, .string d]

set_option maxHeartbeats 400000 in
theorem hasData_any (k : Int) (w : World) :
    Calls Tryd.prog 65 #[.int .i64 k] w fun e w' => e = .returned (.bool (hasDataB k)) ∧ w = w' := by
  by_cases h3 : k = 3
  · subst h3
    go_enter Tryd.func65, Tryd.ntmps65
    go_wp2
    go_ret
    exact ⟨rfl, rfl⟩
  · by_cases h4 : k = 4
    · subst h4
      go_enter Tryd.func65, Tryd.ntmps65
      go_wp2
      go_ret
      exact ⟨rfl, rfl⟩
    · go_enter Tryd.func65, Tryd.ntmps65
      go_wp2
      go_ret
      exact ⟨ret_bool (by simp [hasDataB, h3, h4]), rfl⟩

set_option maxHeartbeats 400000 in
theorem canKey_any (k : Int) (w : World) :
    Calls Tryd.prog 78 #[.int .i64 k] w fun e w' => e = .returned (.bool (canKeyB k)) ∧ w = w' := by
  by_cases h1 : k = 1
  · subst h1
    go_enter Tryd.func78, Tryd.ntmps78
    go_wp2
    go_ret
    exact ⟨rfl, rfl⟩
  · by_cases h2 : k = 2
    · subst h2
      go_enter Tryd.func78, Tryd.ntmps78
      go_wp2
      go_ret
      exact ⟨rfl, rfl⟩
    · by_cases h4 : k = 4
      · subst h4
        go_enter Tryd.func78, Tryd.ntmps78
        go_wp2
        go_ret
        exact ⟨rfl, rfl⟩
      · go_enter Tryd.func78, Tryd.ntmps78
        go_wp2
        go_ret
        exact ⟨ret_bool (by simp [canKeyB, h1, h2, h4]), rfl⟩

set_option maxHeartbeats 400000 in
theorem tooMany_any (k n : Int) (w : World) :
    Calls Tryd.prog 46 #[.int .i64 k, .int .u64 n] w fun e w' => e = .returned (.bool (tooManyB k n)) ∧ w = w' := by
  by_cases h5 : k = 5
  · subst h5
    go_enter Tryd.func46, Tryd.ntmps46
    go_wp2
    go_ret
    exact ⟨ret_bool (by simp [tooManyB]), rfl⟩
  · by_cases h6 : k = 6
    · subst h6
      go_enter Tryd.func46, Tryd.ntmps46
      go_wp2
      go_ret
      exact ⟨ret_bool (by simp [tooManyB]), rfl⟩
    · go_enter Tryd.func46, Tryd.ntmps46
      go_wp2
      go_ret
      exact ⟨ret_bool (by simp [tooManyB, h5, h6]), rfl⟩

set_option maxHeartbeats 400000 in
theorem tooLarge_any (k n : Int) (w : World) :
    Calls Tryd.prog 57 #[.int .i64 k, .int .u64 n] w fun e w' => e = .returned (.bool (tooLargeB k n)) ∧ w = w' := by
  go_enter Tryd.func57, Tryd.ntmps57
  go_wp2_with (first | (go_at_call 65; refine (hasData_any _ _).mono ?_; rintro e w' ⟨rfl, rfl⟩) | (go_at_call 46; refine (tooMany_any _ _ _).mono ?_; rintro e w' ⟨rfl, rfl⟩))
  all_goals go_ret
  all_goals exact ⟨ret_bool (by simp [tooLargeB, *]), rfl⟩

set_option maxHeartbeats 400000 in
theorem parts_any (k n : Int) (d : ByteArray) (w : World) (h0 : 0 ≤ n) (h : k = 6 → n ≤ 512) :
    Calls Tryd.prog 47 #[itemV k n d] w fun e w' => e = .returned (.int .u64 (partsN k n)) ∧ w.alloc (.cells #[.int .i64 k, .int .u64 n, .string d] 58) = w' := by
  unfold itemV
  by_cases h5 : k = 5
  · subst h5
    clear h
    go_enter Tryd.func47, Tryd.ntmps47
    go_wp2
    go_ret
    exact ⟨rfl, rfl⟩
  · by_cases h6 : k = 6
    · have h := h h6
      subst h6
      go_enter Tryd.func47, Tryd.ntmps47
      go_wp2
      go_ret
      exact ⟨rfl, rfl⟩
    · clear h
      go_enter Tryd.func47, Tryd.ntmps47
      go_wp2
      go_ret
      exact ⟨ret_int (by simp [partsN, h5, h6]), rfl⟩

set_option maxHeartbeats 400000 in
theorem argument_any (k n : Int) (d : ByteArray) (w : World) (hd : d.size ≤ maxLen) :
    Calls Tryd.prog 53 #[itemV k n d] w fun e w' => e = .returned (.int .u64 (argN k n d)) ∧ w.alloc (.cells #[.int .i64 k, .int .u64 n, .string d] 58) = w' := by
  unfold itemV
  unfold maxLen at hd
  go_enter Tryd.func53, Tryd.ntmps53
  go_wp2_with (first | (go_at_call 65; refine (hasData_any _ _).mono ?_; rintro e w' ⟨rfl, rfl⟩))
  all_goals go_ret
  all_goals exact ⟨ret_int (by simp [argN, *]), rfl⟩

theorem argSz0 {n : Int} (h : n < 24) : argSz n = 0 := by simp [argSz, h]
theorem argSz1 {n : Int} (h : 24 ≤ n) (h2 : n < 256) : argSz n = 1 := by simp only [argSz]; rw [if_neg (by omega), if_pos h2]
theorem argSz2 {n : Int} (h : 256 ≤ n) (h2 : n < 65536) : argSz n = 2 := by simp only [argSz]; rw [if_neg (by omega), if_neg (by omega), if_pos h2]
theorem argSz4 {n : Int} (h : 65536 ≤ n) (h2 : n < 4294967296) : argSz n = 4 := by simp only [argSz]; rw [if_neg (by omega), if_neg (by omega), if_neg (by omega), if_pos h2]
theorem argSz8 {n : Int} (h : 4294967296 ≤ n) : argSz n = 8 := by simp only [argSz]; rw [if_neg (by omega), if_neg (by omega), if_neg (by omega), if_neg (by omega)]
set_option maxHeartbeats 400000 in
theorem argSz_any (n : Int) (w : World) :
    Calls Tryd.prog 75 #[.int .u64 n] w fun e w' => e = .returned (.int .i64 (argSz n)) ∧ w = w' := by
  by_cases h1 : n < 24
  · go_enter Tryd.func75, Tryd.ntmps75
    go_wp2
    go_ret
    exact ⟨ret_int (argSz0 h1).symm, rfl⟩
  by_cases h2 : n < 256
  · go_enter Tryd.func75, Tryd.ntmps75
    go_wp2
    go_ret
    exact ⟨ret_int (argSz1 (by omega) h2).symm, rfl⟩
  by_cases h3 : n < 65536
  · go_enter Tryd.func75, Tryd.ntmps75
    go_wp2
    go_ret
    exact ⟨ret_int (argSz2 (by omega) h3).symm, rfl⟩
  by_cases h4 : n < 4294967296
  · go_enter Tryd.func75, Tryd.ntmps75
    go_wp2
    go_ret
    exact ⟨ret_int (argSz4 (by omega) h4).symm, rfl⟩
  · go_enter Tryd.func75, Tryd.ntmps75
    go_wp2
    go_ret
    exact ⟨ret_int (argSz8 (by omega)).symm, rfl⟩
end Go.Proofs.YtepinmeidjlmmaaDoor
