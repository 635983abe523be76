/- Joined: E7, E8, E9, F1, F2, F3, F4. -/
import Derived.Test.YtepinmeidjlmmaaDoorR5
import Derived.Test.YtepinmeidjlmmaaDoorR6
import Derived.Test.YtepinmeidjlmmaaDoorR7
namespace Go.Proofs.YtepinmeidjlmmaaDoor
open Go.RowKit

section
variable {c dep : Nat} {key : Bool} {bf : ByteArray} {k n : Int} {d : ByteArray}
theorem cr8 (h : 512 ≤ c) : checkRE c dep key bf k n d = 8 := by unfold checkRE; rw [if_pos h]
theorem cr3 (h : c < 512) (h2 : k < 1 ∨ 8 < k) : checkRE c dep key bf k n d = 3 := by unfold checkRE; rw [if_neg (by omega), if_pos h2]
theorem cr3k (h : c < 512) (h2 : ¬ (k < 1 ∨ 8 < k)) (h3 : key = true ∧ canKeyB k = false) : checkRE c dep key bf k n d = 3 := by unfold checkRE; rw [if_neg (by omega), if_neg h2, if_pos h3]
theorem cr5 (h : c < 512) (h2 : ¬ (k < 1 ∨ 8 < k)) (h3 : ¬ (key = true ∧ canKeyB k = false)) (h4 : 8 < dep) : checkRE c dep key bf k n d = 5 := by unfold checkRE; rw [if_neg (by omega), if_neg h2, if_neg h3, if_pos h4]
theorem cr4 (h : c < 512) (h2 : ¬ (k < 1 ∨ 8 < k)) (h3 : ¬ (key = true ∧ canKeyB k = false)) (h4 : dep ≤ 8) (h5 : shapeB k n d = false) : checkRE c dep key bf k n d = 4 := by
  unfold checkRE; rw [if_neg (by omega), if_neg h2, if_neg h3, if_neg (by omega), if_pos h5]
theorem cr8s (h : c < 512) (h2 : ¬ (k < 1 ∨ 8 < k)) (h3 : ¬ (key = true ∧ canKeyB k = false)) (h4 : dep ≤ 8) (h5 : shapeB k n d = true) (h6 : tooLargeB k (argN k n d) = true) : checkRE c dep key bf k n d = 8 := by
  unfold checkRE; rw [if_neg (by omega), if_neg h2, if_neg h3, if_neg (by omega), if_neg (by simp [h5]), if_pos h6]
theorem cr6 (h : c < 512) (h2 : ¬ (k < 1 ∨ 8 < k)) (h3 : ¬ (key = true ∧ canKeyB k = false)) (h4 : dep ≤ 8) (h5 : shapeB k n d = true) (h6 : tooLargeB k (argN k n d) = false) (h7 : k = 4 ∧ Lib.validD d.data.toList = false) : checkRE c dep key bf k n d = 6 := by
  unfold checkRE; rw [if_neg (by omega), if_neg h2, if_neg h3, if_neg (by omega), if_neg (by simp [h5]), if_neg (by simp [h6]), if_pos h7]
theorem crK (h : c < 512) (h2 : ¬ (k < 1 ∨ 8 < k)) (h3 : ¬ (key = true ∧ canKeyB k = false)) (h4 : dep ≤ 8) (h5 : shapeB k n d = true) (h6 : tooLargeB k (argN k n d) = false) (h7 : ¬ (k = 4 ∧ Lib.validD d.data.toList = false)) :
    checkRE c dep key bf k n d = if key = true ∧ bf.toList.isEmpty = false ∧ lessB bf (bytesS k n d) = false then 7 else 0 := by
  unfold checkRE; rw [if_neg (by omega), if_neg h2, if_neg h3, if_neg (by omega), if_neg (by simp [h5]), if_neg (by simp [h6]), if_neg h7]
end
theorem no_tl {k n : Int} {d : ByteArray} (h1 : hasDataB k = false) (h2 : k ≠ 5) (h3 : k ≠ 6) : tooLargeB k (argN k n d) = false := by
  simp [tooLargeB, tooManyB, h1, h2, h3]

theorem check_k1 (c dep : Nat) (key : Bool) (bf : ByteArray) (n : Int) (d : ByteArray) (w : World) (hn0 : 0 ≤ n) :
    Calls Tryd.prog 61 #[itemV 1 n d, .int .i64 c, .int .i64 dep, .bool key, .string bf] w (CheckPost w (checkRE c dep key bf 1 n d)) := by
  have hk : ¬ ((1 : Int) < 1 ∨ (8 : Int) < 1) := by omega
  by_cases hat : 512 ≤ c
  · rw [cr8 hat]
    cases key
    · exact ck1false_at c dep bf n d w (by omega)
    · exact ck1true_at c dep bf n d w (by omega)
  have hc : ¬ (key = true ∧ canKeyB 1 = false) := by simp [canKeyB]
  by_cases hdep : 8 < dep
  · rw [cr5 (by omega) hk hc hdep]
    cases key
    · exact ck1false_dep c dep bf n d w (by omega) (by omega)
    · exact ck1true_dep c dep bf n d w (by omega) (by omega)
  cases hde : d.toList.isEmpty with
  | false =>
    rw [cr4 (by omega) hk hc (by omega) (shape_bad hde rfl)]
    cases key
    · exact ck1false_ndata c dep bf n d w (by omega) (by omega) hde
    · exact ck1true_ndata c dep bf n d w (by omega) (by omega) hde
  | true =>
    have hsh : shapeB 1 n d = true := by simp [shapeB, hde]
    rw [crK (by omega) hk hc (by omega) hsh (no_tl rfl (by omega) (by omega)) (by omega)]
    cases key
    · rw [if_neg (by simp)]
      exact ck1false_ok c dep bf n d w (by omega) (by omega) hde
    · cases hbf : bf.toList.isEmpty with
      | true =>
        rw [if_neg (by simp)]
        exact ck1true_first c dep bf n d w (by omega) (by omega) hde hbf
      | false =>
        cases hl : lessB bf (bytesS 1 n d) with
        | true =>
          rw [if_neg (by simp)]
          exact ck1true_true c dep bf n d w (by omega) (by omega) hde hbf hn0 hl
        | false =>
          rw [if_pos (by simp)]
          exact ck1true_false c dep bf n d w (by omega) (by omega) hde hbf hn0 hl

theorem check_k2 (c dep : Nat) (key : Bool) (bf : ByteArray) (n : Int) (d : ByteArray) (w : World) (hn0 : 0 ≤ n) :
    Calls Tryd.prog 61 #[itemV 2 n d, .int .i64 c, .int .i64 dep, .bool key, .string bf] w (CheckPost w (checkRE c dep key bf 2 n d)) := by
  have hk : ¬ ((2 : Int) < 1 ∨ (8 : Int) < 2) := by omega
  by_cases hat : 512 ≤ c
  · rw [cr8 hat]
    cases key
    · exact ck2false_at c dep bf n d w (by omega)
    · exact ck2true_at c dep bf n d w (by omega)
  have hc : ¬ (key = true ∧ canKeyB 2 = false) := by simp [canKeyB]
  by_cases hdep : 8 < dep
  · rw [cr5 (by omega) hk hc hdep]
    cases key
    · exact ck2false_dep c dep bf n d w (by omega) (by omega)
    · exact ck2true_dep c dep bf n d w (by omega) (by omega)
  cases hde : d.toList.isEmpty with
  | false =>
    rw [cr4 (by omega) hk hc (by omega) (shape_bad hde rfl)]
    cases key
    · exact ck2false_ndata c dep bf n d w (by omega) (by omega) hde
    · exact ck2true_ndata c dep bf n d w (by omega) (by omega) hde
  | true =>
    have hsh : shapeB 2 n d = true := by simp [shapeB, hde]
    rw [crK (by omega) hk hc (by omega) hsh (no_tl rfl (by omega) (by omega)) (by omega)]
    cases key
    · rw [if_neg (by simp)]
      exact ck2false_ok c dep bf n d w (by omega) (by omega) hde
    · cases hbf : bf.toList.isEmpty with
      | true =>
        rw [if_neg (by simp)]
        exact ck2true_first c dep bf n d w (by omega) (by omega) hde hbf
      | false =>
        cases hl : lessB bf (bytesS 2 n d) with
        | true =>
          rw [if_neg (by simp)]
          exact ck2true_true c dep bf n d w (by omega) (by omega) hde hbf hn0 hl
        | false =>
          rw [if_pos (by simp)]
          exact ck2true_false c dep bf n d w (by omega) (by omega) hde hbf hn0 hl

theorem check_k4 (c dep : Nat) (key : Bool) (bf : ByteArray) (n : Int) (d : ByteArray) (w : World) (hn0 : 0 ≤ n) (ht : Tabs w) :
    Calls Tryd.prog 61 #[itemV 4 n d, .int .i64 c, .int .i64 dep, .bool key, .string bf] w (CheckPost w (checkRE c dep key bf 4 n d)) := by
  have hk : ¬ ((4 : Int) < 1 ∨ (8 : Int) < 4) := by omega
  by_cases hat : 512 ≤ c
  · rw [cr8 hat]
    cases key
    · exact ck4false_at c dep bf n d w (by omega)
    · exact ck4true_at c dep bf n d w (by omega)
  have hc : ¬ (key = true ∧ canKeyB 4 = false) := by simp [canKeyB]
  by_cases hdep : 8 < dep
  · rw [cr5 (by omega) hk hc hdep]
    cases key
    · exact ck4false_dep c dep bf n d w (by omega) (by omega)
    · exact ck4true_dep c dep bf n d w (by omega) (by omega)
  by_cases hn : n = 0
  · subst hn
    have hsh : shapeB 4 0 d = true := by simp [shapeB, hasDataB]
    by_cases hsz : 1024 < (d.size : Int)
    · rw [cr8s (by omega) hk hc (by omega) hsh (by simp [tooLargeB, argN, hasDataB]; omega)]
      cases key
      · exact ck4false_size c dep bf d w (by omega) (by omega) hsz
      · exact ck4true_size c dep bf d w (by omega) (by omega) hsz
    have htl : tooLargeB 4 (argN 4 0 d) = false := by simp [tooLargeB, tooManyB, argN, hasDataB]; omega
    cases hv : Lib.validD d.data.toList with
    | false =>
      rw [cr6 (by omega) hk hc (by omega) hsh htl ⟨rfl, hv⟩]
      cases key
      · exact ck4false_text c dep bf d w (by omega) (by omega) (by omega) ht hv
      · exact ck4true_text c dep bf d w (by omega) (by omega) (by omega) ht hv
    | true =>
      rw [crK (by omega) hk hc (by omega) hsh htl (by simp [hv])]
      cases key
      · rw [if_neg (by simp)]
        exact ck4false_ok c dep bf d w (by omega) (by omega) (by omega) ht hv
      · cases hbf : bf.toList.isEmpty with
        | true =>
          rw [if_neg (by simp)]
          exact ck4true_first c dep bf d w (by omega) (by omega) (by omega) ht hv hbf
        | false =>
          cases hl : lessB bf (bytesS 4 0 d) with
          | true =>
            rw [if_neg (by simp)]
            exact ck4true_true c dep bf d w (by omega) (by omega) (by omega) ht hv hbf hl
          | false =>
            rw [if_pos (by simp)]
            exact ck4true_false c dep bf d w (by omega) (by omega) (by omega) ht hv hbf hl
  · have hsh : shapeB 4 n d = false := by simp [shapeB, hasDataB]; omega
    rw [cr4 (by omega) hk hc (by omega) hsh]
    cases key
    · exact ck4false_num c dep bf n d w (by omega) (by omega) hn
    · exact ck4true_num c dep bf n d w (by omega) (by omega) hn

theorem check_k3 (c dep : Nat) (key : Bool) (bf : ByteArray) (n : Int) (d : ByteArray) (w : World) (hn0 : 0 ≤ n) :
    Calls Tryd.prog 61 #[itemV 3 n d, .int .i64 c, .int .i64 dep, .bool key, .string bf] w (CheckPost w (checkRE c dep key bf 3 n d)) := by
  have hk : ¬ ((3 : Int) < 1 ∨ (8 : Int) < 3) := by omega
  by_cases hat : 512 ≤ c
  · rw [cr8 hat]
    cases key
    · exact ck3false_at c dep bf n d w (by omega)
    · exact ck3true_at c dep bf n d w (by omega)
  cases key with
  | true =>
    rw [cr3k (by omega) hk ⟨rfl, rfl⟩]
    exact ck3true_kind c dep bf n d w (by omega)
  | false =>
  have hc : ¬ (false = true ∧ canKeyB 3 = false) := by simp
  have hz : ¬ (false = true ∧ bf.toList.isEmpty = false ∧ lessB bf (bytesS 3 n d) = false) := by simp
  by_cases hdep : 8 < dep
  · rw [cr5 (by omega) hk hc hdep]
    exact ck3_dep c dep bf n d w (by omega) (by omega)
  by_cases hn : n = 0
  · subst hn
    have hsh : shapeB 3 0 d = true := by simp [shapeB, hasDataB]
    by_cases hsz : 1024 < (d.size : Int)
    · rw [cr8s (by omega) hk hc (by omega) hsh (by simp [tooLargeB, argN, hasDataB]; omega)]
      exact ck3_size c dep bf d w (by omega) (by omega) hsz
    · rw [crK (by omega) hk hc (by omega) hsh (by simp [tooLargeB, tooManyB, argN, hasDataB]; omega) (by omega), if_neg hz]
      exact ck3_ok c dep bf d w (by omega) (by omega) (by omega)
  · have hsh : shapeB 3 n d = false := by simp [shapeB, hasDataB]; omega
    rw [cr4 (by omega) hk hc (by omega) hsh]
    exact ck3_num c dep bf n d w (by omega) (by omega) hn

theorem check_k5 (c dep : Nat) (key : Bool) (bf : ByteArray) (n : Int) (d : ByteArray) (w : World) (hn0 : 0 ≤ n) :
    Calls Tryd.prog 61 #[itemV 5 n d, .int .i64 c, .int .i64 dep, .bool key, .string bf] w (CheckPost w (checkRE c dep key bf 5 n d)) := by
  have hk : ¬ ((5 : Int) < 1 ∨ (8 : Int) < 5) := by omega
  by_cases hat : 512 ≤ c
  · rw [cr8 hat]
    cases key
    · exact ck5false_at c dep bf n d w (by omega)
    · exact ck5true_at c dep bf n d w (by omega)
  cases key with
  | true =>
    rw [cr3k (by omega) hk ⟨rfl, rfl⟩]
    exact ck5true_kind c dep bf n d w (by omega)
  | false =>
  have hc : ¬ (false = true ∧ canKeyB 5 = false) := by simp
  have hz : ¬ (false = true ∧ bf.toList.isEmpty = false ∧ lessB bf (bytesS 5 n d) = false) := by simp
  by_cases hdep : 8 < dep
  · rw [cr5 (by omega) hk hc hdep]
    exact ck5_dep c dep bf n d w (by omega) (by omega)
  cases hde : d.toList.isEmpty with
  | false =>
    rw [cr4 (by omega) hk hc (by omega) (shape_bad hde rfl)]
    exact ck5_ndata c dep bf n d w (by omega) (by omega) hde
  | true =>
    have hsh : shapeB 5 n d = true := by simp [shapeB, hde]
    by_cases hn : 512 < n
    · rw [cr8s (by omega) hk hc (by omega) hsh (by simp [tooLargeB, tooManyB, argN, hasDataB]; omega)]
      exact ck5_size c dep bf n d w (by omega) (by omega) hde hn
    · rw [crK (by omega) hk hc (by omega) hsh (by simp [tooLargeB, tooManyB, argN, hasDataB]; omega) (by omega), if_neg hz]
      exact ck5_ok c dep bf n d w (by omega) (by omega) hde (by omega)

theorem check_k6 (c dep : Nat) (key : Bool) (bf : ByteArray) (n : Int) (d : ByteArray) (w : World) (hn0 : 0 ≤ n) :
    Calls Tryd.prog 61 #[itemV 6 n d, .int .i64 c, .int .i64 dep, .bool key, .string bf] w (CheckPost w (checkRE c dep key bf 6 n d)) := by
  have hk : ¬ ((6 : Int) < 1 ∨ (8 : Int) < 6) := by omega
  by_cases hat : 512 ≤ c
  · rw [cr8 hat]
    cases key
    · exact ck6false_at c dep bf n d w (by omega)
    · exact ck6true_at c dep bf n d w (by omega)
  cases key with
  | true =>
    rw [cr3k (by omega) hk ⟨rfl, rfl⟩]
    exact ck6true_kind c dep bf n d w (by omega)
  | false =>
  have hc : ¬ (false = true ∧ canKeyB 6 = false) := by simp
  have hz : ¬ (false = true ∧ bf.toList.isEmpty = false ∧ lessB bf (bytesS 6 n d) = false) := by simp
  by_cases hdep : 8 < dep
  · rw [cr5 (by omega) hk hc hdep]
    exact ck6_dep c dep bf n d w (by omega) (by omega)
  cases hde : d.toList.isEmpty with
  | false =>
    rw [cr4 (by omega) hk hc (by omega) (shape_bad hde rfl)]
    exact ck6_ndata c dep bf n d w (by omega) (by omega) hde
  | true =>
    have hsh : shapeB 6 n d = true := by simp [shapeB, hde]
    by_cases hn : 512 < n
    · rw [cr8s (by omega) hk hc (by omega) hsh (by simp [tooLargeB, tooManyB, argN, hasDataB]; omega)]
      exact ck6_size c dep bf n d w (by omega) (by omega) hde hn
    · rw [crK (by omega) hk hc (by omega) hsh (by simp [tooLargeB, tooManyB, argN, hasDataB]; omega) (by omega), if_neg hz]
      exact ck6_ok c dep bf n d w (by omega) (by omega) hde (by omega)

theorem check_k7 (c dep : Nat) (key : Bool) (bf : ByteArray) (n : Int) (d : ByteArray) (w : World) (hn0 : 0 ≤ n) :
    Calls Tryd.prog 61 #[itemV 7 n d, .int .i64 c, .int .i64 dep, .bool key, .string bf] w (CheckPost w (checkRE c dep key bf 7 n d)) := by
  have hk : ¬ ((7 : Int) < 1 ∨ (8 : Int) < 7) := by omega
  by_cases hat : 512 ≤ c
  · rw [cr8 hat]
    cases key
    · exact ck7false_at c dep bf n d w (by omega)
    · exact ck7true_at c dep bf n d w (by omega)
  cases key with
  | true =>
    rw [cr3k (by omega) hk ⟨rfl, rfl⟩]
    exact ck7true_kind c dep bf n d w (by omega)
  | false =>
  have hc : ¬ (false = true ∧ canKeyB 7 = false) := by simp
  have hz : ¬ (false = true ∧ bf.toList.isEmpty = false ∧ lessB bf (bytesS 7 n d) = false) := by simp
  by_cases hdep : 8 < dep
  · rw [cr5 (by omega) hk hc hdep]
    exact ck7_dep c dep bf n d w (by omega) (by omega)
  by_cases hn : 1 < n
  · have hsh : shapeB 7 n d = false := by simp [shapeB, hasDataB]; omega
    rw [cr4 (by omega) hk hc (by omega) hsh]
    exact ck7_num c dep bf n d w (by omega) (by omega) hn
  cases hde : d.toList.isEmpty with
  | false =>
    rw [cr4 (by omega) hk hc (by omega) (shape_bad hde rfl)]
    exact ck7_ndata c dep bf n d w (by omega) (by omega) (by omega) hde
  | true =>
    have hsh : shapeB 7 n d = true := by simp [shapeB, hde]; omega
    rw [crK (by omega) hk hc (by omega) hsh (no_tl rfl (by omega) (by omega)) (by omega), if_neg hz]
    exact ck7_ok c dep bf n d w (by omega) (by omega) (by omega) hde

theorem check_k8 (c dep : Nat) (key : Bool) (bf : ByteArray) (n : Int) (d : ByteArray) (w : World) (hn0 : 0 ≤ n) :
    Calls Tryd.prog 61 #[itemV 8 n d, .int .i64 c, .int .i64 dep, .bool key, .string bf] w (CheckPost w (checkRE c dep key bf 8 n d)) := by
  have hk : ¬ ((8 : Int) < 1 ∨ (8 : Int) < 8) := by omega
  by_cases hat : 512 ≤ c
  · rw [cr8 hat]
    cases key
    · exact ck8false_at c dep bf n d w (by omega)
    · exact ck8true_at c dep bf n d w (by omega)
  cases key with
  | true =>
    rw [cr3k (by omega) hk ⟨rfl, rfl⟩]
    exact ck8true_kind c dep bf n d w (by omega)
  | false =>
  have hc : ¬ (false = true ∧ canKeyB 8 = false) := by simp
  have hz : ¬ (false = true ∧ bf.toList.isEmpty = false ∧ lessB bf (bytesS 8 n d) = false) := by simp
  by_cases hdep : 8 < dep
  · rw [cr5 (by omega) hk hc hdep]
    exact ck8_dep c dep bf n d w (by omega) (by omega)
  by_cases hn : n = 0
  · subst hn
    cases hde : d.toList.isEmpty with
    | false =>
      rw [cr4 (by omega) hk hc (by omega) (shape_bad hde rfl)]
      exact ck8_ndata c dep bf d w (by omega) (by omega) hde
    | true =>
      have hsh : shapeB 8 0 d = true := by simp [shapeB, hde]
      rw [crK (by omega) hk hc (by omega) hsh (no_tl rfl (by omega) (by omega)) (by omega), if_neg hz]
      exact ck8_ok c dep bf d w (by omega) (by omega) hde
  · have hsh : shapeB 8 n d = false := by simp [shapeB, hasDataB]; omega
    rw [cr4 (by omega) hk hc (by omega) hsh]
    exact ck8_num c dep bf n d w (by omega) (by omega) hn

/-- the reference's check of one item, at its place -/
theorem checkR_any (c dep : Nat) (key : Bool) (bf : ByteArray) (k n : Int) (d : ByteArray) (w : World) (hn0 : 0 ≤ n) (ht : Tabs w) :
    Calls Tryd.prog 61 #[itemV k n d, .int .i64 c, .int .i64 dep, .bool key, .string bf] w (CheckPost w (checkRE c dep key bf k n d)) := by
  by_cases hlo : k < 1
  · have e : ∀ j : Int, 1 ≤ j → (k == j) = false := fun j hj => by simp; omega
    by_cases hat : 512 ≤ c
    · rw [cr8 hat]
      cases key
      · exact cklofalse_at c dep bf k n d w (e 3 (by omega)) (e 4 (by omega)) (e 5 (by omega)) (e 6 (by omega)) hlo (by omega)
      · exact cklotrue_at c dep bf k n d w (e 3 (by omega)) (e 4 (by omega)) (e 5 (by omega)) (e 6 (by omega)) hlo (by omega)
    · rw [cr3 (by omega) (.inl hlo)]
      cases key
      · exact cklofalse_kind c dep bf k n d w (e 3 (by omega)) (e 4 (by omega)) (e 5 (by omega)) (e 6 (by omega)) hlo (by omega)
      · exact cklotrue_kind c dep bf k n d w (e 3 (by omega)) (e 4 (by omega)) (e 5 (by omega)) (e 6 (by omega)) hlo (by omega)
  by_cases hhi : 8 < k
  · have e : ∀ j : Int, j ≤ 8 → (k == j) = false := fun j hj => by simp; omega
    by_cases hat : 512 ≤ c
    · rw [cr8 hat]
      cases key
      · exact ckhifalse_at c dep bf k n d w (e 3 (by omega)) (e 4 (by omega)) (e 5 (by omega)) (e 6 (by omega)) hhi (by omega)
      · exact ckhitrue_at c dep bf k n d w (e 3 (by omega)) (e 4 (by omega)) (e 5 (by omega)) (e 6 (by omega)) hhi (by omega)
    · rw [cr3 (by omega) (.inr hhi)]
      cases key
      · exact ckhifalse_kind c dep bf k n d w (e 3 (by omega)) (e 4 (by omega)) (e 5 (by omega)) (e 6 (by omega)) hhi (by omega)
      · exact ckhitrue_kind c dep bf k n d w (e 3 (by omega)) (e 4 (by omega)) (e 5 (by omega)) (e 6 (by omega)) hhi (by omega)
  have hs : k = 1 ∨ k = 2 ∨ k = 3 ∨ k = 4 ∨ k = 5 ∨ k = 6 ∨ k = 7 ∨ k = 8 := by omega
  rcases hs with rfl | rfl | rfl | rfl | rfl | rfl | rfl | rfl
  · exact check_k1 c dep key bf n d w hn0
  · exact check_k2 c dep key bf n d w hn0
  · exact check_k3 c dep key bf n d w hn0
  · exact check_k4 c dep key bf n d w hn0 ht
  · exact check_k5 c dep key bf n d w hn0
  · exact check_k6 c dep key bf n d w hn0
  · exact check_k7 c dep key bf n d w hn0
  · exact check_k8 c dep key bf n d w hn0

end Go.Proofs.YtepinmeidjlmmaaDoor

namespace Go.Proofs.YtepinmeidjlmmaaDoor
open Go.RowKit

def lastAt (l : List It) (i : Nat) : ByteArray := match l[i]? with
  | some x => bytesS x.k x.n x.d
  | none => ⟨#[]⟩
/-- the reference's loop over the parts of an array or a map -/
def loopE (W : Nat → Bool → ByteArray → Nat × Int) (l : List It) (mp : Bool) : Nat → Nat → ByteArray → Nat × Int
  | 0, a, _ => (a, 0)
  | c + 1, a, last =>
    if mp = true then
      if (W a true last).2 ≠ 0 then W a true last
      else if (W (W a true last).1 false ⟨#[]⟩).2 ≠ 0 then W (W a true last).1 false ⟨#[]⟩
      else loopE W l mp c (W (W a true last).1 false ⟨#[]⟩).1 (lastAt l a)
    else
      if (W a false ⟨#[]⟩).2 ≠ 0 then W a false ⟨#[]⟩ else loopE W l mp c (W a false ⟨#[]⟩).1 last
/-- the reference's walk over a data item: the index behind it, and its error -/
def walkE : Nat → List It → Nat → Nat → Bool → ByteArray → Nat × Int
  | 0, _, a, _, _, _ => (a, 5)
  | f + 1, l, a, dep, key, bf =>
    match l[a]? with
    | none => (a, 1)
    | some x =>
      if checkRE a dep key bf x.k x.n x.d ≠ 0 then (a, checkRE a dep key bf x.k x.n x.d)
      else if x.k = 5 ∨ x.k = 6 then loopE (fun a2 k2 b2 => walkE f l a2 (dep + 1) k2 b2) l (x.k == 6) x.n.toNat (a + 1) ⟨#[]⟩
      else (a + 1, 0)

abbrev WalkPost (w : World) (r : Nat × Int) (e : Ending) (w' : World) : Prop := e = .returned (.tuple #[.int .i64 r.1, .int .i64 r.2]) ∧ Below w.heap.size w w'

set_option maxRecDepth 100000 in
set_option maxHeartbeats 400000 in
theorem walk_end (a : Option Addr) (len cap : Nat) (at_ dep : Nat) (key : Bool) (bf : ByteArray) (w : World) (h : len ≤ at_) :
    Calls Tryd.prog 42 #[.slice a len cap, .int .i64 at_, .int .i64 dep, .bool key, .string bf] w (WalkPost w (at_, 1)) := by
  have h1 : (len : Int) ≤ (at_ : Int) := by omega
  go_enter Tryd.func42, Tryd.ntmps42
  go_wp2
  go_ret2
  exact ⟨rfl, Below.refl _ _⟩

set_option maxRecDepth 100000 in
set_option maxHeartbeats 400000 in
theorem walk_bad (b off len cap : Nat) (at_ dep : Nat) (key : Bool) (bf : ByteArray) (k n : Int) (d : ByteArray) (w : World) (h : at_ < len) (_ : len ≤ 1000000000000000) (ht : Tabs w) (hn0 : 0 ≤ n)
    (q0 : w.cell? ⟨b, off + at_ * 3, none⟩ = some (.int .i64 k)) (q1 : w.cell? ⟨b, off + at_ * 3 + 1, none⟩ = some (.int .u64 n)) (q2 : w.cell? ⟨b, off + at_ * 3 + 2, none⟩ = some (.string d))
    (r : Int) (hr : checkRE at_ dep key bf k n d = r) (hr0 : r ≠ 0) :
    Calls Tryd.prog 42 #[.slice (some ⟨b, off, none⟩) len cap, .int .i64 at_, .int .i64 dep, .bool key, .string bf] w (WalkPost w (at_, r)) := by
  have h1 : (at_ : Int) < (len : Int) := by omega
  have h2 : (0 : Int) ≤ (at_ : Int) := by omega
  have HB0 := Lib.hid ((Below.refl w.heap.size w).alloc (Nat.le_refl _) (.cells #[.int .i64 k, .int .u64 n, .string d] 58))
  have HK := Lib.hid (fun (W : World) (hW : Below w.heap.size w W) => show Calls Tryd.prog 61 #[itemV k n d, .int .i64 at_, .int .i64 dep, .bool key, .string bf] W (CheckPost W r) by have := checkR_any at_ dep key bf k n d W hn0 (ht.later hW); rwa [hr] at this)
  clear ht hr
  go_enter Tryd.func42, Tryd.ntmps42
  go_wp2_with (go_at_call 61; refine (HK.out _ (by exact HB0.out)).mono ?_; rintro e w1 ⟨rfl, hb1⟩)
  go_ret2
  exact ⟨rfl, below_aft HB0.out hb1⟩

end Go.Proofs.YtepinmeidjlmmaaDoor

namespace Go.Proofs.YtepinmeidjlmmaaDoor
open Go.RowKit

set_option maxRecDepth 100000 in
set_option maxHeartbeats 400000 in
theorem walk_leaf (b off len cap : Nat) (at_ dep : Nat) (key : Bool) (bf : ByteArray) (k n : Int) (d : ByteArray) (w : World) (h : at_ < len) (hlen : len ≤ 1000000000000000) (ht : Tabs w) (hn0 : 0 ≤ n)
    (q0 : w.cell? ⟨b, off + at_ * 3, none⟩ = some (.int .i64 k)) (q1 : w.cell? ⟨b, off + at_ * 3 + 1, none⟩ = some (.int .u64 n)) (q2 : w.cell? ⟨b, off + at_ * 3 + 2, none⟩ = some (.string d))
    (hr : checkRE at_ dep key bf k n d = 0) (h5 : (k == 5) = false) (h6 : (k == 6) = false) :
    Calls Tryd.prog 42 #[.slice (some ⟨b, off, none⟩) len cap, .int .i64 at_, .int .i64 dep, .bool key, .string bf] w (WalkPost w (at_ + 1, 0)) := by
  have h1 : (at_ : Int) < (len : Int) := by omega
  have h2 : (0 : Int) ≤ (at_ : Int) := by omega
  have HB0 := Lib.hid ((Below.refl w.heap.size w).alloc (Nat.le_refl _) (.cells #[.int .i64 k, .int .u64 n, .string d] 58))
  have HK := Lib.hid (fun (W : World) (hW : Below w.heap.size w W) => show Calls Tryd.prog 61 #[itemV k n d, .int .i64 at_, .int .i64 dep, .bool key, .string bf] W (CheckPost W 0) by have := checkR_any at_ dep key bf k n d W hn0 (ht.later hW); rwa [hr] at this)
  have HS0 := Lib.hid (BoxS.mk' (heap_new w (.cells #[.int .i64 k, .int .u64 n, .string d] 58)))
  clear ht hr
  by_cases hn : 0 < n
  · go_enter Tryd.func42, Tryd.ntmps42
    go_wp2_with (go_at_call 61; refine (HK.out _ (by exact HB0.out)).mono ?_; rintro e w1 ⟨rfl, hb1⟩; obtain ⟨c1, c2, c3, c4⟩ := BoxS.step HS0.out hb1)
    refine wp_loop_rounds 1 ?_
    rw [rounds_succ]
    go_wp2
    go_ret2
    exact ⟨rfl, below_aft HB0.out hb1⟩
  · go_enter Tryd.func42, Tryd.ntmps42
    go_wp2_with (go_at_call 61; refine (HK.out _ (by exact HB0.out)).mono ?_; rintro e w1 ⟨rfl, hb1⟩; obtain ⟨c1, c2, c3, c4⟩ := BoxS.step HS0.out hb1)
    refine wp_loop_rounds 1 ?_
    rw [rounds_succ]
    go_wp2
    go_ret2
    exact ⟨rfl, below_aft HB0.out hb1⟩

set_option maxRecDepth 100000 in
set_option maxHeartbeats 1000000 in
theorem walk_array (W2 : Nat → Bool → ByteArray → Nat × Int) (l : List It) (b off len cap : Nat) (at_ dep N : Nat) (key : Bool) (bf : ByteArray) (d : ByteArray) (w : World) (h : at_ < len) (hlen : len ≤ 1000000000000000) (ht : Tabs w) (hd9 : dep ≤ 10)
    (q0 : w.cell? ⟨b, off + at_ * 3, none⟩ = some (.int .i64 5)) (q1 : w.cell? ⟨b, off + at_ * 3 + 1, none⟩ = some (.int .u64 N)) (q2 : w.cell? ⟨b, off + at_ * 3 + 2, none⟩ = some (.string d))
    (hr : checkRE at_ dep key bf 5 N d = 0) (hN : N ≤ 1000)
    (hIH : ∀ (W : World) (a2 : Nat) (k2 : Bool) (b2 : ByteArray), Below w.heap.size w W → Calls Tryd.prog 42 #[.slice (some ⟨b, off, none⟩) len cap, .int .i64 a2, .int .i64 ((dep : Int) + 1), .bool k2, .string b2] W (WalkPost W (W2 a2 k2 b2))) :
    Calls Tryd.prog 42 #[.slice (some ⟨b, off, none⟩) len cap, .int .i64 at_, .int .i64 dep, .bool key, .string bf] w (WalkPost w (loopE W2 l false N (at_ + 1) ⟨#[]⟩)) := by
  have h1 : (at_ : Int) < (len : Int) := by omega
  have h2 : (0 : Int) ≤ (at_ : Int) := by omega
  have HB0 := Lib.hid ((Below.refl w.heap.size w).alloc (Nat.le_refl _) (.cells #[.int .i64 5, .int .u64 N, .string d] 58))
  have HK := Lib.hid (fun (W : World) (hW : Below w.heap.size w W) => show Calls Tryd.prog 61 #[itemV 5 N d, .int .i64 at_, .int .i64 dep, .bool key, .string bf] W (CheckPost W 0) by have := checkR_any at_ dep key bf 5 N d W (by omega) (ht.later hW); rwa [hr] at this)
  have HS0 := Lib.hid (BoxS.mk' (heap_new w (.cells #[.int .i64 5, .int .u64 N, .string d] 58)))
  have HIH := Lib.hid hIH
  clear ht hr hIH
  go_enter Tryd.func42, Tryd.ntmps42
  go_wp2_with (go_at_call 61; refine (HK.out _ (by exact HB0.out)).mono ?_; rintro e w1 ⟨rfl, hb1⟩)
  have HS1 := Lib.hid (BoxS.step HS0.out hb1)
  have HB1 := Lib.hid (below_aft HB0.out hb1)
  have hlt1 : w.heap.size < w1.heap.size := by have := hb1.size; simp at this; omega
  have HL1 := Lib.hid hlt1
  clear hb1 hlt1
  go_loopw [14, 15, 16] (fun nx la i wr => ∃ j a2 : Nat, j ≤ N ∧ i = .int .u64 j ∧ nx = .int .i64 a2 ∧ la = .string ⟨#[]⟩ ∧ Below w.heap.size w wr ∧ BoxS w.heap.size 5 N d wr ∧ w.heap.size < wr.heap.size ∧ loopE W2 l false (N - j) a2 ⟨#[]⟩ = loopE W2 l false N (at_ + 1) ⟨#[]⟩) (fun _ _ i _ => N - (intOf i).toNat)
  case atStart => exact ⟨0, at_ + 1, by omega, rfl, by go_num, rfl, HB1.out, HS1.out, HL1.out, rfl⟩
  case round =>
    obtain ⟨j, a2, hj, rfl, rfl, rfl, hbr, hsr, hlr, hgo⟩ := hrel
    have HBR := Lib.hid hbr
    have HSR := Lib.hid hsr
    have HGO := Lib.hid hgo
    obtain ⟨c1, c2, c3, c4⟩ := hsr
    clear hbr hgo
    by_cases hlt : j < N
    · obtain ⟨N2, hN2⟩ : ∃ N2, N - j = N2 + 1 := ⟨N - j - 1, by omega⟩
      have hstep := HGO.out
      rw [hN2] at hstep
      have HSTEP := Lib.hid hstep
      clear hstep
      generalize hres : W2 a2 false ⟨#[]⟩ = res at *
      obtain ⟨a3, e3⟩ := res
      have hC := HIH.out wr a2 false ⟨#[]⟩ HBR.out
      rw [hres] at hC
      have HC := Lib.hid hC
      clear hC
      by_cases he : e3 = 0
      · subst he
        go_wp2_with (go_at_call 42; refine HC.out.mono ?_; rintro e w3 ⟨rfl, hb3⟩)
        go_roundw
        case rel =>
          refine ⟨j + 1, a3, by omega, by go_num, rfl, rfl, below_aft HBR.out hb3, BoxS.stepB HSR.out hb3 hlr, Nat.lt_of_lt_of_le hlr hb3.size, ?_⟩
          rw [← HSTEP.out, show N - (j + 1) = N2 from by omega]
          show _ = loopE W2 l false (N2 + 1) a2 ⟨#[]⟩
          simp [loopE, hres]
        case measure => simp [intOf]; omega
      · go_wp2_with (go_at_call 42; refine HC.out.mono ?_; rintro e w3 ⟨rfl, hb3⟩)
        go_ret2
        refine ⟨?_, below_aft HBR.out hb3⟩
        rw [← HSTEP.out]
        simp [loopE, hres, he]
    · obtain rfl : j = N := by omega
      go_wp2
      go_ret2
      refine ⟨?_, HBR.out⟩
      rw [← HGO.out]
      simp [loopE]

end Go.Proofs.YtepinmeidjlmmaaDoor

namespace Go.Proofs.YtepinmeidjlmmaaDoor
open Go.RowKit

set_option maxRecDepth 100000 in
set_option maxHeartbeats 2000000 in
theorem walk_map (W2 : Nat → Bool → ByteArray → Nat × Int) (l : List It) (b off cap : Nat) (at_ dep N : Nat) (key : Bool) (bf : ByteArray) (d : ByteArray) (w : World) (h : at_ < l.length) (hlen : l.length ≤ 1000000000000000) (ht : Tabs w) (hd9 : dep ≤ 10) (hb : b < w.heap.size)
    (hcells : ∀ i (h : i < l.length), w.cell? ⟨b, off + i * 3, none⟩ = some (.int .i64 l[i].k) ∧ w.cell? ⟨b, off + i * 3 + 1, none⟩ = some (.int .u64 l[i].n) ∧ w.cell? ⟨b, off + i * 3 + 2, none⟩ = some (.string l[i].d))
    (hpos : ∀ x ∈ l, 0 ≤ x.n)
    (q0 : w.cell? ⟨b, off + at_ * 3, none⟩ = some (.int .i64 6)) (q1 : w.cell? ⟨b, off + at_ * 3 + 1, none⟩ = some (.int .u64 N)) (q2 : w.cell? ⟨b, off + at_ * 3 + 2, none⟩ = some (.string d))
    (hr : checkRE at_ dep key bf 6 N d = 0) (hN : N ≤ 1000)
    (hok : ∀ (a2 : Nat) (b2 : ByteArray), (W2 a2 true b2).2 = 0 → ∃ x, l[a2]? = some x ∧ 1 ≤ x.k ∧ x.k ≤ 8 ∧ (x.k = 7 → x.n ≤ 1) ∧ x.d.size ≤ 1100)
    (hIH : ∀ (W : World) (a2 : Nat) (k2 : Bool) (b2 : ByteArray), Below w.heap.size w W → Calls Tryd.prog 42 #[.slice (some ⟨b, off, none⟩) l.length cap, .int .i64 a2, .int .i64 ((dep : Int) + 1), .bool k2, .string b2] W (WalkPost W (W2 a2 k2 b2))) :
    Calls Tryd.prog 42 #[.slice (some ⟨b, off, none⟩) l.length cap, .int .i64 at_, .int .i64 dep, .bool key, .string bf] w (WalkPost w (loopE W2 l true N (at_ + 1) ⟨#[]⟩)) := by
  have h1 : (at_ : Int) < (l.length : Int) := by omega
  have h2 : (0 : Int) ≤ (at_ : Int) := by omega
  have HB0 := Lib.hid ((Below.refl w.heap.size w).alloc (Nat.le_refl _) (.cells #[.int .i64 6, .int .u64 N, .string d] 58))
  have HK := Lib.hid (fun (W : World) (hW : Below w.heap.size w W) => show Calls Tryd.prog 61 #[itemV 6 N d, .int .i64 at_, .int .i64 dep, .bool key, .string bf] W (CheckPost W 0) by have := checkR_any at_ dep key bf 6 N d W (by omega) (ht.later hW); rwa [hr] at this)
  have HS0 := Lib.hid (BoxS.mk' (heap_new w (.cells #[.int .i64 6, .int .u64 N, .string d] 58)))
  have HIH := Lib.hid hIH
  have HOK := Lib.hid hok
  have HC0 := Lib.hid hcells
  have HPOS := Lib.hid hpos
  clear ht hr hIH hok hcells hpos
  go_enter Tryd.func42, Tryd.ntmps42
  go_wp2_with (go_at_call 61; refine (HK.out _ (by exact HB0.out)).mono ?_; rintro e w1 ⟨rfl, hb1⟩)
  have HS1 := Lib.hid (BoxS.step HS0.out hb1)
  have HB1 := Lib.hid (below_aft HB0.out hb1)
  have hlt1 : w.heap.size < w1.heap.size := by have := hb1.size; simp at this; omega
  have HL1 := Lib.hid hlt1
  clear hb1 hlt1
  go_loopw [14, 15, 16] (fun nx la i wr => ∃ (j a2 : Nat) (lb : ByteArray), j ≤ N ∧ i = .int .u64 j ∧ nx = .int .i64 a2 ∧ la = .string lb ∧ Below w.heap.size w wr ∧ BoxS w.heap.size 6 N d wr ∧ w.heap.size < wr.heap.size ∧ loopE W2 l true (N - j) a2 lb = loopE W2 l true N (at_ + 1) ⟨#[]⟩) (fun _ _ i _ => N - (intOf i).toNat)
  case atStart => exact ⟨0, at_ + 1, _, by omega, rfl, by go_num, rfl, HB1.out, HS1.out, HL1.out, rfl⟩
  case round =>
    obtain ⟨j, a2, lb, hj, rfl, rfl, rfl, hbr, hsr, hlr, hgo⟩ := hrel
    have HBR := Lib.hid hbr
    have HSR := Lib.hid hsr
    have HGO := Lib.hid hgo
    obtain ⟨c1, c2, c3, c4⟩ := hsr
    clear hbr hgo
    by_cases hlt : j < N
    · obtain ⟨N2, hN2⟩ : ∃ N2, N - j = N2 + 1 := ⟨N - j - 1, by omega⟩
      have hstep := HGO.out
      rw [hN2] at hstep
      have HSTEP := Lib.hid hstep
      clear hstep
      have hC := HIH.out wr a2 true lb HBR.out
      have hOK := HOK.out a2 lb
      generalize hres : W2 a2 true lb = res at *
      obtain ⟨a3, e3⟩ := res
      have HC := Lib.hid hC
      clear hC
      by_cases he : e3 = 0
      · subst he
        obtain ⟨x, hx, hx1, hx2, hx3, hx4⟩ := hOK rfl
        have hla : lastAt l a2 = bytesS x.k x.n x.d := by simp [lastAt, hx]
        have ha2 : a2 < l.length := by
          rcases Nat.lt_or_ge a2 l.length with h3 | h3
          · exact h3
          · rw [List.getElem?_eq_none h3] at hx; cases hx
        have hxe : l[a2] = x := by rw [List.getElem?_eq_getElem ha2] at hx; exact Option.some.inj hx
        have hxn : 0 ≤ x.n := HPOS.out x (hxe ▸ List.getElem_mem ha2)
        have hcx := HC0.out a2 ha2
        rw [hxe] at hcx
        obtain ⟨k2, n2, d2⟩ := x
        simp only at hcx hx1 hx2 hx3 hx4 hxn hla
        have HCX := Lib.hid hcx
        have HBY := Lib.hid (fun (W : World) => bytesR_any k2 n2 d2 W hx1 hx2 hxn hx3 hx4)
        have hC2 := fun (W : World) (hW : Below w.heap.size w W) => HIH.out W a3 false ⟨#[]⟩ hW
        generalize hres2 : W2 a3 false ⟨#[]⟩ = res2 at *
        obtain ⟨a4, e4⟩ := res2
        have HC2 := Lib.hid hC2
        have HX := Lib.hid hx
        have HLA := Lib.hid hla
        have h3 : (a2 : Int) < (l.length : Int) := by omega
        have h4 : (0 : Int) ≤ (a2 : Int) := by omega
        clear hC2 hx hcx hxe hOK hx3 hla
        by_cases he2 : e4 = 0
        · subst he2
          go_wp2_with fail
          refine HC.out.mono ?_
          rintro e w3 ⟨rfl, hb3⟩
          obtain ⟨x0, x1, x2⟩ := HCX.out
          have y0 := ((below_aft HBR.out hb3).cell (p := ⟨b, off + a2 * 3, none⟩) hb).trans x0
          have y1 := ((below_aft HBR.out hb3).cell (p := ⟨b, off + a2 * 3 + 1, none⟩) hb).trans x1
          have y2 := ((below_aft HBR.out hb3).cell (p := ⟨b, off + a2 * 3 + 2, none⟩) hb).trans x2
          clear x0 x1 x2
          go_wp2_with fail
          refine (HBY.out _).mono ?_
          rintro e w4 ⟨rfl, hb4⟩
          clear y0 y1 y2
          go_wp2_with fail
          refine (HC2.out _ (below_aft (below_aft HBR.out hb3) hb4)).mono ?_
          rintro e w5 ⟨rfl, hb5⟩
          go_wp2_with fail
          go_roundw
          case rel =>
            have hb6 := below_aft (below_aft (below_aft HBR.out hb3) hb4) hb5
            have hs6 := BoxS.stepB (BoxS.stepB (BoxS.stepB HSR.out hb3 hlr) hb4 (Nat.lt_of_lt_of_le hlr hb3.size)) hb5 (Nat.lt_of_lt_of_le hlr (Nat.le_trans hb3.size hb4.size))
            refine ⟨j + 1, a4, _, by omega, by go_num, rfl, rfl, hb6, hs6, Nat.lt_of_lt_of_le hlr (Nat.le_trans hb3.size (Nat.le_trans hb4.size hb5.size)), ?_⟩
            rw [← HSTEP.out, show N - (j + 1) = N2 from by omega]
            show _ = loopE W2 l true (N2 + 1) a2 lb
            simp [loopE, hres, hres2, HLA.out]
          case measure => simp [intOf]; omega
        · go_wp2_with fail
          refine HC.out.mono ?_
          rintro e w3 ⟨rfl, hb3⟩
          obtain ⟨x0, x1, x2⟩ := HCX.out
          have y0 := ((below_aft HBR.out hb3).cell (p := ⟨b, off + a2 * 3, none⟩) hb).trans x0
          have y1 := ((below_aft HBR.out hb3).cell (p := ⟨b, off + a2 * 3 + 1, none⟩) hb).trans x1
          have y2 := ((below_aft HBR.out hb3).cell (p := ⟨b, off + a2 * 3 + 2, none⟩) hb).trans x2
          clear x0 x1 x2
          go_wp2_with fail
          refine (HBY.out _).mono ?_
          rintro e w4 ⟨rfl, hb4⟩
          clear y0 y1 y2
          go_wp2_with fail
          refine (HC2.out _ (below_aft (below_aft HBR.out hb3) hb4)).mono ?_
          rintro e w5 ⟨rfl, hb5⟩
          go_wp2_with fail
          go_ret2
          refine ⟨?_, below_aft (below_aft (below_aft HBR.out hb3) hb4) hb5⟩
          rw [← HSTEP.out]
          simp [loopE, hres, hres2, he2]
      · clear hOK
        go_wp2_with (go_at_call 42; refine HC.out.mono ?_; rintro e w3 ⟨rfl, hb3⟩)
        go_ret2
        refine ⟨?_, below_aft HBR.out hb3⟩
        rw [← HSTEP.out]
        simp [loopE, hres, he]
    · obtain rfl : j = N := by omega
      go_wp2
      go_ret2
      refine ⟨?_, HBR.out⟩
      rw [← HGO.out]
      simp [loopE]

end Go.Proofs.YtepinmeidjlmmaaDoor

namespace Go.Proofs.YtepinmeidjlmmaaDoor
open Go.RowKit

theorem checkR_zero {c dep : Nat} {key : Bool} {bf : ByteArray} {k n : Int} {d : ByteArray} (h : checkRE c dep key bf k n d = 0) : c < 512 ∧ 1 ≤ k ∧ k ≤ 8 ∧ dep ≤ 8 ∧ (key = true → canKeyB k = true) ∧ shapeB k n d = true ∧ tooLargeB k (argN k n d) = false ∧ ¬ (k = 4 ∧ Lib.validD d.data.toList = false) ∧ ¬ (key = true ∧ bf.toList.isEmpty = false ∧ lessB bf (bytesS k n d) = false) := by
  by_cases h1 : 512 ≤ c
  · rw [cr8 h1] at h; cases h
  by_cases h2 : k < 1 ∨ 8 < k
  · rw [cr3 (by omega) h2] at h; cases h
  by_cases h3 : key = true ∧ canKeyB k = false
  · rw [cr3k (by omega) h2 h3] at h; cases h
  by_cases h4 : 8 < dep
  · rw [cr5 (by omega) h2 h3 h4] at h; cases h
  cases h5 : shapeB k n d with
  | false => rw [cr4 (by omega) h2 h3 (by omega) h5] at h; cases h
  | true =>
    cases h6 : tooLargeB k (argN k n d) with
    | true => rw [cr8s (by omega) h2 h3 (by omega) h5 h6] at h; cases h
    | false =>
      by_cases h7 : k = 4 ∧ Lib.validD d.data.toList = false
      · rw [cr6 (by omega) h2 h3 (by omega) h5 h6 h7] at h; cases h
      · rw [crK (by omega) h2 h3 (by omega) h5 h6 h7] at h
        refine ⟨by omega, by omega, by omega, by omega, fun hk => ?_, rfl, rfl, h7, fun h8 => ?_⟩
        · cases hc : canKeyB k with
          | true => rfl
          | false => exact absurd ⟨hk, hc⟩ h3
        · rw [if_pos h8] at h; cases h
theorem many_512 {k n : Int} {d : ByteArray} (h6 : tooLargeB k (argN k n d) = false) (hk : k = 5 ∨ k = 6) : n ≤ 512 := by
  rcases hk with rfl | rfl
  · simp [tooLargeB, tooManyB, argN, hasDataB] at h6; omega
  · simp [tooLargeB, tooManyB, argN, hasDataB] at h6; omega

theorem walkE_ok {f : Nat} {l : List It} {a dep : Nat} {key : Bool} {bf : ByteArray} (h : (walkE (f + 1) l a dep key bf).2 = 0) : ∃ x, l[a]? = some x ∧ checkRE a dep key bf x.k x.n x.d = 0 := by
  unfold walkE at h
  cases hx : l[a]? with
  | none => rw [hx] at h; simp at h
  | some x =>
    rw [hx] at h
    simp only at h
    by_cases hc : checkRE a dep key bf x.k x.n x.d = 0
    · exact ⟨x, rfl, hc⟩
    · rw [if_pos hc] at h
      exact absurd h hc

theorem walk_any (l : List It) (v : Value) : ∀ (f dep : Nat), f + dep = 9 → ∀ (at_ : Nat) (key : Bool) (bf : ByteArray) (w : World), ItemsAt w w.heap.size v l → Tabs w →
    Calls Tryd.prog 42 #[v, .int .i64 at_, .int .i64 dep, .bool key, .string bf] w (WalkPost w (walkE (f + 1) l at_ dep key bf)) := by
  intro f
  induction f with
  | zero =>
    intro dep hf at_ key bf w hI ht
    rcases hI.form with ⟨rfl, rfl⟩ | ⟨b, off, cap, rfl, hb, hcells⟩
    · exact walk_end none 0 0 at_ dep key bf w (by omega)
    · by_cases hat : at_ < l.length
      · obtain ⟨c0, c1, c2⟩ := hcells at_ hat
        have hx : l[at_]? = some l[at_] := List.getElem?_eq_getElem hat
        have hn := (hI.ok l[at_] (List.getElem_mem hat)).1
        by_cases hc : checkRE at_ dep key bf l[at_].k l[at_].n l[at_].d = 0
        · have := (checkR_zero hc).2.2.2.1
          omega
        · have e : walkE (0 + 1) l at_ dep key bf = (at_, checkRE at_ dep key bf l[at_].k l[at_].n l[at_].d) := by unfold walkE; rw [hx]; simp only; rw [if_pos hc]
          rw [e]
          exact walk_bad b off l.length cap at_ dep key bf _ _ _ w hat hI.len ht hn c0 c1 c2 _ rfl hc
      · have e : walkE (0 + 1) l at_ dep key bf = (at_, 1) := by unfold walkE; rw [List.getElem?_eq_none (by omega)]
        rw [e]
        exact walk_end _ _ _ at_ dep key bf w (by omega)
  | succ f ih =>
    intro dep hf at_ key bf w hI ht
    rcases hI.form with ⟨rfl, rfl⟩ | ⟨b, off, cap, rfl, hb, hcells⟩
    · exact walk_end none 0 0 at_ dep key bf w (by omega)
    · by_cases hat : at_ < l.length
      · obtain ⟨c0, c1, c2⟩ := hcells at_ hat
        have hx : l[at_]? = some l[at_] := List.getElem?_eq_getElem hat
        have hn := (hI.ok l[at_] (List.getElem_mem hat)).1
        generalize hxe : l[at_] = x at *
        by_cases hc : checkRE at_ dep key bf x.k x.n x.d = 0
        · obtain ⟨z1, z2, z3, z4, z5, z6, z7, z8, z9⟩ := checkR_zero hc
          have hIH : ∀ (W : World) (a2 : Nat) (k2 : Bool) (b2 : ByteArray), Below w.heap.size w W → Calls Tryd.prog 42 #[.slice (some ⟨b, off, none⟩) l.length cap, .int .i64 a2, .int .i64 ((dep : Int) + 1), .bool k2, .string b2] W (WalkPost W (walkE (f + 1) l a2 (dep + 1) k2 b2)) := fun W a2 k2 b2 hW =>
            ih (dep + 1) (by omega) a2 k2 b2 W (itemsAt_mono (hI.below hW) hW.size) (ht.later hW)
          obtain ⟨N, hN⟩ : ∃ N : Nat, x.n = N := ⟨x.n.toNat, by omega⟩
          by_cases hk5 : x.k = 5
          · have hN5 := many_512 z7 (.inl hk5)
            have e : walkE (f + 1 + 1) l at_ dep key bf = loopE (fun a2 k2 b2 => walkE (f + 1) l a2 (dep + 1) k2 b2) l false N (at_ + 1) ⟨#[]⟩ := by
              rw [walkE, hx]; simp only; rw [if_neg (by simp [hc]), if_pos (.inl hk5), hk5, hN]; rfl
            rw [e]
            rw [hk5, hN] at hc
            rw [hk5] at c0
            rw [hN] at c1
            exact walk_array _ l b off l.length cap at_ dep N key bf _ w hat hI.len ht (by omega) c0 c1 c2 hc (by omega) hIH
          by_cases hk6 : x.k = 6
          · have hN6 := many_512 z7 (.inr hk6)
            have e : walkE (f + 1 + 1) l at_ dep key bf = loopE (fun a2 k2 b2 => walkE (f + 1) l a2 (dep + 1) k2 b2) l true N (at_ + 1) ⟨#[]⟩ := by
              rw [walkE, hx]; simp only; rw [if_neg (by simp [hc]), if_pos (.inr hk6), hk6, hN]; rfl
            rw [e]
            rw [hk6, hN] at hc
            rw [hk6] at c0
            rw [hN] at c1
            refine walk_map _ l b off cap at_ dep N key bf _ w hat hI.len ht (by omega) hb hcells (fun y hy => (hI.ok y hy).1) c0 c1 c2 hc (by omega) (fun a2 b2 h0 => ?_) hIH
            obtain ⟨y, hy, hcy⟩ := walkE_ok h0
            obtain ⟨y1, y2, y3, _, _, y6, y7, _⟩ := checkR_zero hcy
            have hs := sound_item y6 y7 y2
            exact ⟨y, hy, y2, y3, hs.1, by omega⟩
          · have e : walkE (f + 1 + 1) l at_ dep key bf = (at_ + 1, 0) := by
              rw [walkE, hx]; simp only; rw [if_neg (by simp [hc]), if_neg (by omega)]
            rw [e]
            exact walk_leaf b off l.length cap at_ dep key bf _ _ _ w hat hI.len ht hn c0 c1 c2 hc (by simp; omega) (by simp; omega)
        · have e : walkE (f + 1 + 1) l at_ dep key bf = (at_, checkRE at_ dep key bf x.k x.n x.d) := by rw [walkE, hx]; simp only; rw [if_pos hc]
          rw [e]
          exact walk_bad b off l.length cap at_ dep key bf _ _ _ w hat hI.len ht hn c0 c1 c2 _ rfl hc
      · have e : walkE (f + 1 + 1) l at_ dep key bf = (at_, 1) := by rw [walkE, List.getElem?_eq_none (by omega)]
        rw [e]
        exact walk_end _ _ _ at_ dep key bf w (by omega)

end Go.Proofs.YtepinmeidjlmmaaDoor

namespace Go.Proofs.YtepinmeidjlmmaaDoor
open Go.RowKit

theorem compare_less : ∀ (a b : List UInt8), a.length = b.length → (0 ≤ Lib.compareBytes a b ↔ Op.bytesLess a b = false)
  | [], [], _ => by simp [Lib.compareBytes, Op.bytesLess]
  | [], _ :: _, h => by simp at h
  | _ :: _, [], h => by simp at h
  | x :: xs, y :: ys, h => by
    have ih := compare_less xs ys (by simpa using h)
    unfold Lib.compareBytes Op.bytesLess
    by_cases h1 : x < y
    · simp [h1]
    · by_cases h2 : y < x
      · have h3 : (x == y) = false := by
          apply beq_false_of_ne
          intro e
          subst e
          exact h1 h2
        rw [if_neg h1, if_pos h2]
        simp [h1, h3]
      · have h3 : x = y := by
          apply UInt8.toNat_inj.1
          have a1 := UInt8.not_lt.1 h1
          have a2 := UInt8.not_lt.1 h2
          have b1 := UInt8.le_iff_toNat_le.1 a1
          have b2 := UInt8.le_iff_toNat_le.1 a2
          omega
        subst h3
        rw [if_neg h1, if_neg h1, ih]
        simp [h1]

theorem bytesS_list (k n : Int) (d : ByteArray) : (bytesS k n d).toList = Lib.bytesOf (headR k n d) ++ d.data.toList := by
  rw [Lib.toList_data, bytesS, ByteArray.data_append, Array.toList_append, strOfNums_data]
  rfl
theorem bytesOf_data (d : ByteArray) : Lib.bytesOf (dataI d) = d.data.toList := by
  simp only [Lib.bytesOf, dataI, List.map_map]
  conv => rhs; rw [← List.map_id d.data.toList]
  apply List.map_congr_left
  intro x _
  simp
theorem bytesS_enc {k n : Int} {d : ByteArray} (hk : k ≤ 6) : (bytesS k n d).toList = Lib.bytesOf (encItem k n d) := by
  rw [bytesS_list, encItemP hk]
  have e : headR k n d = encHead (k - 1) (argN k n d) := by unfold headR; rw [if_neg (by omega), if_neg (by omega)]
  rw [e, Lib.bytesOf, Lib.bytesOf, List.map_append]
  congr 1
  exact (bytesOf_data d).symm
theorem bytesS_size {k n : Int} {d : ByteArray} (hk : k ≤ 6) : (bytesS k n d).size = (encItem k n d).length := by
  have h := congrArg List.length (bytesS_enc (n := n) (d := d) hk)
  rw [Lib.toList_data] at h
  simpa [Lib.bytesOf] using h

/-- the two orders of keys are one -/
theorem order_same {k1 n1 k2 n2 : Int} {d1 d2 : ByteArray} (h1 : k1 ≤ 6) (h2 : k2 ≤ 6) : (0 ≤ cmpEnc (encItem k1 n1 d1) (encItem k2 n2 d2)) ↔ lessB (bytesS k1 n1 d1) (bytesS k2 n2 d2) = false := by
  unfold cmpEnc lessB
  rw [bytesS_size h1, bytesS_size h2]
  by_cases he : (encItem k1 n1 d1).length = (encItem k2 n2 d2).length
  · rw [if_pos he, bytesS_enc h1, bytesS_enc h2]
    rw [orI_r (cmpI_eq (by omega) (by omega))]
    exact compare_less _ _ (by simpa [Lib.bytesOf] using he)
  · rw [if_neg he]
    by_cases hl : (encItem k1 n1 d1).length < (encItem k2 n2 d2).length
    · rw [cmpI_lt (by omega), orI_l (by omega)]
      simp [hl]
    · rw [cmpI_gt (by omega), orI_l (by omega)]
      simp [hl]

/-- what the stack's innermost level says of the key before -/
def KeyRel (s : List Lv) (bf : ByteArray) : Prop := atKeyB s = true → ∃ t r, s = t :: r ∧ t.lk ≤ 6 ∧ ((t.lk = 0 ∧ bf.toList.isEmpty = true) ∨ (t.lk ≠ 0 ∧ bf = bytesS t.lk t.ln t.ld))
theorem bytesS_ne (k n : Int) (d : ByteArray) : (bytesS k n d).toList.isEmpty = false := by
  rw [bytesS_list]
  have := headR_pos k n d
  cases h : headR k n d with
  | nil => rw [h] at this; simp at this
  | cons x r => simp [Lib.bytesOf]

theorem check_same {c : Nat} {s : List Lv} {bf : ByteArray} {k n : Int} {d : ByteArray} (hc : compB c s = false) (hr : KeyRel s bf) : checkE c s k n d = checkRE c s.length (atKeyB s) bf k n d := by
  unfold checkE checkRE placeE
  rw [if_neg (by simp [hc])]
  by_cases h1 : 512 ≤ c
  · simp [h1]
  rw [if_neg h1, if_neg h1]
  by_cases h2 : k < 1 ∨ 8 < k
  · simp [h2]
  rw [if_neg h2, if_neg h2]
  by_cases h3 : atKeyB s = true ∧ canKeyB k = false
  · simp [h3]
  rw [if_neg h3, if_neg h3]
  by_cases h4 : 8 < s.length
  · simp [h4]
  rw [if_neg h4, if_neg h4, if_neg (by simp)]
  by_cases h5 : shapeB k n d = false
  · rw [if_pos h5, if_pos h5]
  rw [if_neg h5, if_neg h5]
  by_cases h6 : tooLargeB k (argN k n d) = true
  · rw [if_pos h6, if_pos h6]
  rw [if_neg h6, if_neg h6]
  unfold contentE
  by_cases h7 : k = 4 ∧ Lib.validD d.data.toList = false
  · rw [if_pos h7, if_pos h7]
  rw [if_neg h7, if_neg h7]
  cases s with
  | nil => simp [atKeyB]
  | cons t r =>
    simp only
    by_cases ha : atKeyB (t :: r) = true
    · obtain ⟨t2, r2, e, hl6, h⟩ := hr ha
      cases e
      have hk6 : k ≤ 6 := by
        cases hck : canKeyB k with
        | false => exact absurd ⟨ha, hck⟩ h3
        | true => simp [canKeyB] at hck; omega
      rcases h with ⟨h0, hb⟩ | ⟨h0, rfl⟩
      · rw [if_neg (by simp [h0]), if_neg (by simp [hb])]
      · have ho := order_same (n1 := t.ln) (d1 := t.ld) (n2 := n) (d2 := d) hl6 hk6
        by_cases hlt : 0 ≤ cmpEnc (encItem t.lk t.ln t.ld) (encItem k n d)
        · rw [if_pos ⟨ha, h0, hlt⟩, if_pos ⟨ha, bytesS_ne _ _ _, ho.1 hlt⟩]
        · rw [if_neg (fun h => hlt h.2.2), if_neg (fun h => hlt (ho.2 h.2.2))]
    · rw [if_neg (fun h => ha h.1), if_neg (fun h => ha h.1)]

end Go.Proofs.YtepinmeidjlmmaaDoor

namespace Go.Proofs.YtepinmeidjlmmaaDoor
open Go.RowKit

def doneAt (l : List It) (s : List Lv) (a : Nat) : List Lv := match l[a]? with
  | some x => popAll (lessS (keyS s x.k x.n x.d))
  | none => []
def fin (l : List It) (s : List Lv) (a : Nat) (r : Nat × Int) : Int := if r.2 ≠ 0 then r.2 else validGo r.1 (doneAt l s a) (l.drop r.1)
def finL (l : List It) (rest : List Lv) (r : Nat × Int) : Int := if r.2 ≠ 0 then r.2 else validGo r.1 (popAll rest) (l.drop r.1)

theorem loop_arr (l : List It) (f dep : Nat) (H : ∀ (a : Nat) (s : List Lv) (bf : ByteArray), s.length = dep + 1 → compB a s = false → KeyRel s bf → validGo a s (l.drop a) = fin l s a (walkE (f + 1) l a (dep + 1) (atKeyB s) bf)) :
    ∀ (c a : Nat) (lv : Lv) (rest : List Lv) (last : ByteArray), lv.mp = false → lv.mi = (c : Int) + 1 → rest.length = dep →
      validGo a (lv :: rest) (l.drop a) = finL l rest (loopE (fun a2 k2 b2 => walkE (f + 1) l a2 (dep + 1) k2 b2) l false (c + 1) a last) := by
  intro c
  induction c with
  | zero =>
    intro a lv rest last hmp hmi hlen
    have hk : atKeyB (lv :: rest) = false := by simp [atKeyB, hmp]
    rw [H a (lv :: rest) ⟨#[]⟩ (by simp [hlen]) (by simp [compB]) (fun h => by rw [hk] at h; cases h), hk]
    by_cases he : (walkE (f + 1) l a (dep + 1) false ⟨#[]⟩).2 = 0
    · obtain ⟨x, hx, _⟩ := walkE_ok he
      simp only [fin, finL, loopE, doneAt, hx, he]
      rw [keyS_no hk]
      simp [lessS, popAll, Lv.less, hmi]
    · simp [fin, finL, loopE, he]
  | succ c ih =>
    intro a lv rest last hmp hmi hlen
    have hk : atKeyB (lv :: rest) = false := by simp [atKeyB, hmp]
    rw [H a (lv :: rest) ⟨#[]⟩ (by simp [hlen]) (by simp [compB]) (fun h => by rw [hk] at h; cases h), hk]
    by_cases he : (walkE (f + 1) l a (dep + 1) false ⟨#[]⟩).2 = 0
    · obtain ⟨x, hx, _⟩ := walkE_ok he
      have e1 : doneAt l (lv :: rest) a = lv.less :: rest := by
        simp only [doneAt, hx]
        rw [keyS_no hk]
        simp only [lessS, popAll, Lv.less, hmi]
        rw [if_neg (by omega)]
      have e2 : fin l (lv :: rest) a (walkE (f + 1) l a (dep + 1) false ⟨#[]⟩) = validGo (walkE (f + 1) l a (dep + 1) false ⟨#[]⟩).1 (lv.less :: rest) (l.drop (walkE (f + 1) l a (dep + 1) false ⟨#[]⟩).1) := by
        unfold fin; rw [if_neg (by simp [he]), e1]
      rw [e2, ih _ lv.less rest last hmp (by simp only [Lv.less, hmi]; omega) hlen]
      conv => rhs; rw [loopE]
      simp [he]
    · conv => rhs; rw [loopE]
      simp [fin, finL, he]

theorem loop_map (l : List It) (f dep : Nat) (H : ∀ (a : Nat) (s : List Lv) (bf : ByteArray), s.length = dep + 1 → compB a s = false → KeyRel s bf → validGo a s (l.drop a) = fin l s a (walkE (f + 1) l a (dep + 1) (atKeyB s) bf)) :
    ∀ (c a : Nat) (lv : Lv) (rest : List Lv) (last : ByteArray), lv.mp = true → lv.mi = 2 * ((c : Int) + 1) → rest.length = dep → lv.lk ≤ 6 → ((lv.lk = 0 ∧ last.toList.isEmpty = true) ∨ (lv.lk ≠ 0 ∧ last = bytesS lv.lk lv.ln lv.ld)) →
      validGo a (lv :: rest) (l.drop a) = finL l rest (loopE (fun a2 k2 b2 => walkE (f + 1) l a2 (dep + 1) k2 b2) l true (c + 1) a last) := by
  intro c
  induction c with
  | zero =>
    intro a lv rest last hmp hmi hlen hl6 hrel
    have hk : atKeyB (lv :: rest) = true := by simp [atKeyB, hmp, hmi]
    rw [H a (lv :: rest) last (by simp [hlen]) (by simp [compB]) (fun _ => ⟨lv, rest, rfl, hl6, hrel⟩), hk]
    by_cases he : (walkE (f + 1) l a (dep + 1) true last).2 = 0
    · obtain ⟨x, hx, hcx⟩ := walkE_ok he
      have e1 : doneAt l (lv :: rest) a = (lv.key x.k x.n x.d).less :: rest := by
        simp only [doneAt, hx]
        rw [keyS_yes hk]
        simp only [lessS, popAll, Lv.less, Lv.key, hmi]
        rw [if_neg (by omega)]
      have hk2 : atKeyB ((lv.key x.k x.n x.d).less :: rest) = false := by simp [atKeyB, Lv.less, Lv.key, hmi]
      have e2 : fin l (lv :: rest) a (walkE (f + 1) l a (dep + 1) true last) = validGo (walkE (f + 1) l a (dep + 1) true last).1 ((lv.key x.k x.n x.d).less :: rest) (l.drop (walkE (f + 1) l a (dep + 1) true last).1) := by
        unfold fin; rw [if_neg (by simp [he]), e1]
      rw [e2]
      generalize hr : walkE (f + 1) l a (dep + 1) true last = r at he
      rw [H r.1 _ ⟨#[]⟩ (by simp [hlen]) (by simp [compB]) (fun h => by rw [hk2] at h; cases h), hk2]
      by_cases he2 : (walkE (f + 1) l r.1 (dep + 1) false ⟨#[]⟩).2 = 0
      · obtain ⟨y, hy, _⟩ := walkE_ok he2
        have e3 : doneAt l ((lv.key x.k x.n x.d).less :: rest) r.1 = popAll rest := by
          simp only [doneAt, hy]
          rw [keyS_no hk2]
          simp only [lessS, popAll, Lv.less, Lv.key, hmi]
          rw [if_pos (by omega)]
        unfold fin
        rw [if_neg (by simp [he2]), e3]
        simp [finL, loopE, hr, he, he2]
      · simp [fin, finL, loopE, hr, he, he2]
    · simp [fin, finL, loopE, he]
  | succ c ih =>
    intro a lv rest last hmp hmi hlen hl6 hrel
    have hk : atKeyB (lv :: rest) = true := by simp [atKeyB, hmp, hmi]
    rw [H a (lv :: rest) last (by simp [hlen]) (by simp [compB]) (fun _ => ⟨lv, rest, rfl, hl6, hrel⟩), hk]
    by_cases he : (walkE (f + 1) l a (dep + 1) true last).2 = 0
    · obtain ⟨x, hx, hcx⟩ := walkE_ok he
      obtain ⟨_, z2, _, _, z5, _⟩ := checkR_zero hcx
      have hck := z5 rfl
      have hx6 : x.k ≤ 6 := by simp [canKeyB] at hck; omega
      have e1 : doneAt l (lv :: rest) a = (lv.key x.k x.n x.d).less :: rest := by
        simp only [doneAt, hx]
        rw [keyS_yes hk]
        simp only [lessS, popAll, Lv.less, Lv.key, hmi]
        rw [if_neg (by omega)]
      have hk2 : atKeyB ((lv.key x.k x.n x.d).less :: rest) = false := by
        have : (2 * ((c : Int) + 1 + 1) - 1) % 2 ≠ 0 := by omega
        simp [atKeyB, Lv.less, Lv.key, hmi]
      have e2 : fin l (lv :: rest) a (walkE (f + 1) l a (dep + 1) true last) = validGo (walkE (f + 1) l a (dep + 1) true last).1 ((lv.key x.k x.n x.d).less :: rest) (l.drop (walkE (f + 1) l a (dep + 1) true last).1) := by
        unfold fin; rw [if_neg (by simp [he]), e1]
      rw [e2]
      have hla : lastAt l a = bytesS x.k x.n x.d := by simp [lastAt, hx]
      generalize hr : walkE (f + 1) l a (dep + 1) true last = r at he
      rw [H r.1 _ ⟨#[]⟩ (by simp [hlen]) (by simp [compB]) (fun h => by rw [hk2] at h; cases h), hk2]
      by_cases he2 : (walkE (f + 1) l r.1 (dep + 1) false ⟨#[]⟩).2 = 0
      · obtain ⟨y, hy, _⟩ := walkE_ok he2
        have e3 : doneAt l ((lv.key x.k x.n x.d).less :: rest) r.1 = (lv.key x.k x.n x.d).less.less :: rest := by
          simp only [doneAt, hy]
          rw [keyS_no hk2]
          simp only [lessS, popAll, Lv.less, Lv.key, hmi]
          rw [if_neg (by omega)]
        unfold fin
        rw [if_neg (by simp [he2]), e3]
        rw [ih _ (lv.key x.k x.n x.d).less.less rest (bytesS x.k x.n x.d) hmp (by simp only [Lv.less, Lv.key, hmi]; omega) hlen hx6 (.inr ⟨by show x.k ≠ 0; omega, rfl⟩)]
        conv => rhs; rw [loopE]
        simp [hr, he, he2, hla]
      · conv => rhs; rw [loopE]
        simp [fin, finL, hr, he, he2]
    · conv => rhs; rw [loopE]
      simp [fin, finL, he]

end Go.Proofs.YtepinmeidjlmmaaDoor
