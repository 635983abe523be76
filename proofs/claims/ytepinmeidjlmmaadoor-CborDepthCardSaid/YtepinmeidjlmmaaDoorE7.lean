import Derived.Test.YtepinmeidjlmmaaDoorE4
import Derived.Test.YtepinmeidjlmmaaDoorE5
import Derived.Test.YtepinmeidjlmmaaDoorE6
namespace Go.Proofs.YtepinmeidjlmmaaDoor
open Go.RowKit

section
variable {c dep : Nat} {key : Bool} {bf : ByteArray} {k n : Int} {d : ByteArray}
theorem cr8 (h : 512 ≤ c) : checkRE c dep key bf k n d = 8 := by unfold checkRE; rw [if_pos h]
theorem cr3 (h : c < 512) (h2 : k < 1 ∨ 8 < k) : checkRE c dep key bf k n d = 3 := by unfold checkRE; rw [if_neg (by omega), if_pos h2]
theorem cr3k (h : c < 512) (h2 : ¬ (k < 1 ∨ 8 < k)) (h3 : key = true ∧ canKeyB k = false) : checkRE c dep key bf k n d = 3 := by unfold checkRE; rw [if_neg (by omega), if_neg h2, if_pos h3]
theorem cr5 (h : c < 512) (h2 : ¬ (k < 1 ∨ 8 < k)) (h3 : ¬ (key = true ∧ canKeyB k = false)) (h4 : 8 < dep) : checkRE c dep key bf k n d = 5 := by unfold checkRE; rw [if_neg (by omega), if_neg h2, if_neg h3, if_pos h4]
theorem cr4 (h : c < 512) (h2 : ¬ (k < 1 ∨ 8 < k)) (h3 : ¬ (key = true ∧ canKeyB k = false)) (h4 : dep ≤ 8) (h5 : shapeB k n d = false) : checkRE c dep key bf k n d = 4 := by
  unfold checkRE; rw [if_neg (by omega), if_neg h2, if_neg h3, if_neg (by omega), if_pos h5]
theorem cr8s (h : c < 512) (h2 : ¬ (k < 1 ∨ 8 < k)) (h3 : ¬ (key = true ∧ canKeyB k = false)) (h4 : dep ≤ 8) (h5 : shapeB k n d = true) (h6 : tooLargeB k (argN k n d) = true) : checkRE c dep key bf k n d = 8 := by
  unfold checkRE; rw [if_neg (by omega), if_neg h2, if_neg h3, if_neg (by omega), if_neg (by simp [h5]), if_pos h6]
theorem cr6 (h : c < 512) (h2 : ¬ (k < 1 ∨ 8 < k)) (h3 : ¬ (key = true ∧ canKeyB k = false)) (h4 : dep ≤ 8) (h5 : shapeB k n d = true) (h6 : tooLargeB k (argN k n d) = false) (h7 : k = 4 ∧ Lib.validD d.data.toList = false) : checkRE c dep key bf k n d = 6 := by
  unfold checkRE; rw [if_neg (by omega), if_neg h2, if_neg h3, if_neg (by omega), if_neg (by simp [h5]), if_neg (by simp [h6]), if_pos h7]
theorem crK (h : c < 512) (h2 : ¬ (k < 1 ∨ 8 < k)) (h3 : ¬ (key = true ∧ canKeyB k = false)) (h4 : dep ≤ 8) (h5 : shapeB k n d = true) (h6 : tooLargeB k (argN k n d) = false) (h7 : ¬ (k = 4 ∧ Lib.validD d.data.toList = false)) :
    checkRE c dep key bf k n d = if key = true ∧ bf.toList.isEmpty = false ∧ lessB bf (bytesS k n d) = false then 7 else 0 := by
  unfold checkRE; rw [if_neg (by omega), if_neg h2, if_neg h3, if_neg (by omega), if_neg (by simp [h5]), if_neg (by simp [h6]), if_neg h7]
end
theorem no_tl {k n : Int} {d : ByteArray} (h1 : hasDataB k = false) (h2 : k ≠ 5) (h3 : k ≠ 6) : tooLargeB k (argN k n d) = false := by
  simp [tooLargeB, tooManyB, h1, h2, h3]

theorem check_k1 (c dep : Nat) (key : Bool) (bf : ByteArray) (n : Int) (d : ByteArray) (w : World) (hn0 : 0 ≤ n) :
    Calls Tryd.prog 61 #[itemV 1 n d, .int .i64 c, .int .i64 dep, .bool key, .string bf] w (CheckPost w (checkRE c dep key bf 1 n d)) := by
  have hk : ¬ ((1 : Int) < 1 ∨ (8 : Int) < 1) := by omega
  by_cases hat : 512 ≤ c
  · rw [cr8 hat]
    cases key
    · exact ck1false_at c dep bf n d w (by omega)
    · exact ck1true_at c dep bf n d w (by omega)
  have hc : ¬ (key = true ∧ canKeyB 1 = false) := by simp [canKeyB]
  by_cases hdep : 8 < dep
  · rw [cr5 (by omega) hk hc hdep]
    cases key
    · exact ck1false_dep c dep bf n d w (by omega) (by omega)
    · exact ck1true_dep c dep bf n d w (by omega) (by omega)
  cases hde : d.toList.isEmpty with
  | false =>
    rw [cr4 (by omega) hk hc (by omega) (shape_bad hde rfl)]
    cases key
    · exact ck1false_ndata c dep bf n d w (by omega) (by omega) hde
    · exact ck1true_ndata c dep bf n d w (by omega) (by omega) hde
  | true =>
    have hsh : shapeB 1 n d = true := by simp [shapeB, hde]
    rw [crK (by omega) hk hc (by omega) hsh (no_tl rfl (by omega) (by omega)) (by omega)]
    cases key
    · rw [if_neg (by simp)]
      exact ck1false_ok c dep bf n d w (by omega) (by omega) hde
    · cases hbf : bf.toList.isEmpty with
      | true =>
        rw [if_neg (by simp)]
        exact ck1true_first c dep bf n d w (by omega) (by omega) hde hbf
      | false =>
        cases hl : lessB bf (bytesS 1 n d) with
        | true =>
          rw [if_neg (by simp)]
          exact ck1true_true c dep bf n d w (by omega) (by omega) hde hbf hn0 hl
        | false =>
          rw [if_pos (by simp)]
          exact ck1true_false c dep bf n d w (by omega) (by omega) hde hbf hn0 hl

theorem check_k2 (c dep : Nat) (key : Bool) (bf : ByteArray) (n : Int) (d : ByteArray) (w : World) (hn0 : 0 ≤ n) :
    Calls Tryd.prog 61 #[itemV 2 n d, .int .i64 c, .int .i64 dep, .bool key, .string bf] w (CheckPost w (checkRE c dep key bf 2 n d)) := by
  have hk : ¬ ((2 : Int) < 1 ∨ (8 : Int) < 2) := by omega
  by_cases hat : 512 ≤ c
  · rw [cr8 hat]
    cases key
    · exact ck2false_at c dep bf n d w (by omega)
    · exact ck2true_at c dep bf n d w (by omega)
  have hc : ¬ (key = true ∧ canKeyB 2 = false) := by simp [canKeyB]
  by_cases hdep : 8 < dep
  · rw [cr5 (by omega) hk hc hdep]
    cases key
    · exact ck2false_dep c dep bf n d w (by omega) (by omega)
    · exact ck2true_dep c dep bf n d w (by omega) (by omega)
  cases hde : d.toList.isEmpty with
  | false =>
    rw [cr4 (by omega) hk hc (by omega) (shape_bad hde rfl)]
    cases key
    · exact ck2false_ndata c dep bf n d w (by omega) (by omega) hde
    · exact ck2true_ndata c dep bf n d w (by omega) (by omega) hde
  | true =>
    have hsh : shapeB 2 n d = true := by simp [shapeB, hde]
    rw [crK (by omega) hk hc (by omega) hsh (no_tl rfl (by omega) (by omega)) (by omega)]
    cases key
    · rw [if_neg (by simp)]
      exact ck2false_ok c dep bf n d w (by omega) (by omega) hde
    · cases hbf : bf.toList.isEmpty with
      | true =>
        rw [if_neg (by simp)]
        exact ck2true_first c dep bf n d w (by omega) (by omega) hde hbf
      | false =>
        cases hl : lessB bf (bytesS 2 n d) with
        | true =>
          rw [if_neg (by simp)]
          exact ck2true_true c dep bf n d w (by omega) (by omega) hde hbf hn0 hl
        | false =>
          rw [if_pos (by simp)]
          exact ck2true_false c dep bf n d w (by omega) (by omega) hde hbf hn0 hl

theorem check_k4 (c dep : Nat) (key : Bool) (bf : ByteArray) (n : Int) (d : ByteArray) (w : World) (hn0 : 0 ≤ n) (ht : Tabs w) :
    Calls Tryd.prog 61 #[itemV 4 n d, .int .i64 c, .int .i64 dep, .bool key, .string bf] w (CheckPost w (checkRE c dep key bf 4 n d)) := by
  have hk : ¬ ((4 : Int) < 1 ∨ (8 : Int) < 4) := by omega
  by_cases hat : 512 ≤ c
  · rw [cr8 hat]
    cases key
    · exact ck4false_at c dep bf n d w (by omega)
    · exact ck4true_at c dep bf n d w (by omega)
  have hc : ¬ (key = true ∧ canKeyB 4 = false) := by simp [canKeyB]
  by_cases hdep : 8 < dep
  · rw [cr5 (by omega) hk hc hdep]
    cases key
    · exact ck4false_dep c dep bf n d w (by omega) (by omega)
    · exact ck4true_dep c dep bf n d w (by omega) (by omega)
  by_cases hn : n = 0
  · subst hn
    have hsh : shapeB 4 0 d = true := by simp [shapeB, hasDataB]
    by_cases hsz : 1024 < (d.size : Int)
    · rw [cr8s (by omega) hk hc (by omega) hsh (by simp [tooLargeB, argN, hasDataB]; omega)]
      cases key
      · exact ck4false_size c dep bf d w (by omega) (by omega) hsz
      · exact ck4true_size c dep bf d w (by omega) (by omega) hsz
    have htl : tooLargeB 4 (argN 4 0 d) = false := by simp [tooLargeB, tooManyB, argN, hasDataB]; omega
    cases hv : Lib.validD d.data.toList with
    | false =>
      rw [cr6 (by omega) hk hc (by omega) hsh htl ⟨rfl, hv⟩]
      cases key
      · exact ck4false_text c dep bf d w (by omega) (by omega) (by omega) ht hv
      · exact ck4true_text c dep bf d w (by omega) (by omega) (by omega) ht hv
    | true =>
      rw [crK (by omega) hk hc (by omega) hsh htl (by simp [hv])]
      cases key
      · rw [if_neg (by simp)]
        exact ck4false_ok c dep bf d w (by omega) (by omega) (by omega) ht hv
      · cases hbf : bf.toList.isEmpty with
        | true =>
          rw [if_neg (by simp)]
          exact ck4true_first c dep bf d w (by omega) (by omega) (by omega) ht hv hbf
        | false =>
          cases hl : lessB bf (bytesS 4 0 d) with
          | true =>
            rw [if_neg (by simp)]
            exact ck4true_true c dep bf d w (by omega) (by omega) (by omega) ht hv hbf hl
          | false =>
            rw [if_pos (by simp)]
            exact ck4true_false c dep bf d w (by omega) (by omega) (by omega) ht hv hbf hl
  · have hsh : shapeB 4 n d = false := by simp [shapeB, hasDataB]; omega
    rw [cr4 (by omega) hk hc (by omega) hsh]
    cases key
    · exact ck4false_num c dep bf n d w (by omega) (by omega) hn
    · exact ck4true_num c dep bf n d w (by omega) (by omega) hn

theorem check_k3 (c dep : Nat) (key : Bool) (bf : ByteArray) (n : Int) (d : ByteArray) (w : World) (hn0 : 0 ≤ n) :
    Calls Tryd.prog 61 #[itemV 3 n d, .int .i64 c, .int .i64 dep, .bool key, .string bf] w (CheckPost w (checkRE c dep key bf 3 n d)) := by
  have hk : ¬ ((3 : Int) < 1 ∨ (8 : Int) < 3) := by omega
  by_cases hat : 512 ≤ c
  · rw [cr8 hat]
    cases key
    · exact ck3false_at c dep bf n d w (by omega)
    · exact ck3true_at c dep bf n d w (by omega)
  cases key with
  | true =>
    rw [cr3k (by omega) hk ⟨rfl, rfl⟩]
    exact ck3true_kind c dep bf n d w (by omega)
  | false =>
  have hc : ¬ (false = true ∧ canKeyB 3 = false) := by simp
  have hz : ¬ (false = true ∧ bf.toList.isEmpty = false ∧ lessB bf (bytesS 3 n d) = false) := by simp
  by_cases hdep : 8 < dep
  · rw [cr5 (by omega) hk hc hdep]
    exact ck3_dep c dep bf n d w (by omega) (by omega)
  by_cases hn : n = 0
  · subst hn
    have hsh : shapeB 3 0 d = true := by simp [shapeB, hasDataB]
    by_cases hsz : 1024 < (d.size : Int)
    · rw [cr8s (by omega) hk hc (by omega) hsh (by simp [tooLargeB, argN, hasDataB]; omega)]
      exact ck3_size c dep bf d w (by omega) (by omega) hsz
    · rw [crK (by omega) hk hc (by omega) hsh (by simp [tooLargeB, tooManyB, argN, hasDataB]; omega) (by omega), if_neg hz]
      exact ck3_ok c dep bf d w (by omega) (by omega) (by omega)
  · have hsh : shapeB 3 n d = false := by simp [shapeB, hasDataB]; omega
    rw [cr4 (by omega) hk hc (by omega) hsh]
    exact ck3_num c dep bf n d w (by omega) (by omega) hn

theorem check_k5 (c dep : Nat) (key : Bool) (bf : ByteArray) (n : Int) (d : ByteArray) (w : World) (hn0 : 0 ≤ n) :
    Calls Tryd.prog 61 #[itemV 5 n d, .int .i64 c, .int .i64 dep, .bool key, .string bf] w (CheckPost w (checkRE c dep key bf 5 n d)) := by
  have hk : ¬ ((5 : Int) < 1 ∨ (8 : Int) < 5) := by omega
  by_cases hat : 512 ≤ c
  · rw [cr8 hat]
    cases key
    · exact ck5false_at c dep bf n d w (by omega)
    · exact ck5true_at c dep bf n d w (by omega)
  cases key with
  | true =>
    rw [cr3k (by omega) hk ⟨rfl, rfl⟩]
    exact ck5true_kind c dep bf n d w (by omega)
  | false =>
  have hc : ¬ (false = true ∧ canKeyB 5 = false) := by simp
  have hz : ¬ (false = true ∧ bf.toList.isEmpty = false ∧ lessB bf (bytesS 5 n d) = false) := by simp
  by_cases hdep : 8 < dep
  · rw [cr5 (by omega) hk hc hdep]
    exact ck5_dep c dep bf n d w (by omega) (by omega)
  cases hde : d.toList.isEmpty with
  | false =>
    rw [cr4 (by omega) hk hc (by omega) (shape_bad hde rfl)]
    exact ck5_ndata c dep bf n d w (by omega) (by omega) hde
  | true =>
    have hsh : shapeB 5 n d = true := by simp [shapeB, hde]
    by_cases hn : 512 < n
    · rw [cr8s (by omega) hk hc (by omega) hsh (by simp [tooLargeB, tooManyB, argN, hasDataB]; omega)]
      exact ck5_size c dep bf n d w (by omega) (by omega) hde hn
    · rw [crK (by omega) hk hc (by omega) hsh (by simp [tooLargeB, tooManyB, argN, hasDataB]; omega) (by omega), if_neg hz]
      exact ck5_ok c dep bf n d w (by omega) (by omega) hde (by omega)

theorem check_k6 (c dep : Nat) (key : Bool) (bf : ByteArray) (n : Int) (d : ByteArray) (w : World) (hn0 : 0 ≤ n) :
    Calls Tryd.prog 61 #[itemV 6 n d, .int .i64 c, .int .i64 dep, .bool key, .string bf] w (CheckPost w (checkRE c dep key bf 6 n d)) := by
  have hk : ¬ ((6 : Int) < 1 ∨ (8 : Int) < 6) := by omega
  by_cases hat : 512 ≤ c
  · rw [cr8 hat]
    cases key
    · exact ck6false_at c dep bf n d w (by omega)
    · exact ck6true_at c dep bf n d w (by omega)
  cases key with
  | true =>
    rw [cr3k (by omega) hk ⟨rfl, rfl⟩]
    exact ck6true_kind c dep bf n d w (by omega)
  | false =>
  have hc : ¬ (false = true ∧ canKeyB 6 = false) := by simp
  have hz : ¬ (false = true ∧ bf.toList.isEmpty = false ∧ lessB bf (bytesS 6 n d) = false) := by simp
  by_cases hdep : 8 < dep
  · rw [cr5 (by omega) hk hc hdep]
    exact ck6_dep c dep bf n d w (by omega) (by omega)
  cases hde : d.toList.isEmpty with
  | false =>
    rw [cr4 (by omega) hk hc (by omega) (shape_bad hde rfl)]
    exact ck6_ndata c dep bf n d w (by omega) (by omega) hde
  | true =>
    have hsh : shapeB 6 n d = true := by simp [shapeB, hde]
    by_cases hn : 512 < n
    · rw [cr8s (by omega) hk hc (by omega) hsh (by simp [tooLargeB, tooManyB, argN, hasDataB]; omega)]
      exact ck6_size c dep bf n d w (by omega) (by omega) hde hn
    · rw [crK (by omega) hk hc (by omega) hsh (by simp [tooLargeB, tooManyB, argN, hasDataB]; omega) (by omega), if_neg hz]
      exact ck6_ok c dep bf n d w (by omega) (by omega) hde (by omega)

theorem check_k7 (c dep : Nat) (key : Bool) (bf : ByteArray) (n : Int) (d : ByteArray) (w : World) (hn0 : 0 ≤ n) :
    Calls Tryd.prog 61 #[itemV 7 n d, .int .i64 c, .int .i64 dep, .bool key, .string bf] w (CheckPost w (checkRE c dep key bf 7 n d)) := by
  have hk : ¬ ((7 : Int) < 1 ∨ (8 : Int) < 7) := by omega
  by_cases hat : 512 ≤ c
  · rw [cr8 hat]
    cases key
    · exact ck7false_at c dep bf n d w (by omega)
    · exact ck7true_at c dep bf n d w (by omega)
  cases key with
  | true =>
    rw [cr3k (by omega) hk ⟨rfl, rfl⟩]
    exact ck7true_kind c dep bf n d w (by omega)
  | false =>
  have hc : ¬ (false = true ∧ canKeyB 7 = false) := by simp
  have hz : ¬ (false = true ∧ bf.toList.isEmpty = false ∧ lessB bf (bytesS 7 n d) = false) := by simp
  by_cases hdep : 8 < dep
  · rw [cr5 (by omega) hk hc hdep]
    exact ck7_dep c dep bf n d w (by omega) (by omega)
  by_cases hn : 1 < n
  · have hsh : shapeB 7 n d = false := by simp [shapeB, hasDataB]; omega
    rw [cr4 (by omega) hk hc (by omega) hsh]
    exact ck7_num c dep bf n d w (by omega) (by omega) hn
  cases hde : d.toList.isEmpty with
  | false =>
    rw [cr4 (by omega) hk hc (by omega) (shape_bad hde rfl)]
    exact ck7_ndata c dep bf n d w (by omega) (by omega) (by omega) hde
  | true =>
    have hsh : shapeB 7 n d = true := by simp [shapeB, hde]; omega
    rw [crK (by omega) hk hc (by omega) hsh (no_tl rfl (by omega) (by omega)) (by omega), if_neg hz]
    exact ck7_ok c dep bf n d w (by omega) (by omega) (by omega) hde

theorem check_k8 (c dep : Nat) (key : Bool) (bf : ByteArray) (n : Int) (d : ByteArray) (w : World) (hn0 : 0 ≤ n) :
    Calls Tryd.prog 61 #[itemV 8 n d, .int .i64 c, .int .i64 dep, .bool key, .string bf] w (CheckPost w (checkRE c dep key bf 8 n d)) := by
  have hk : ¬ ((8 : Int) < 1 ∨ (8 : Int) < 8) := by omega
  by_cases hat : 512 ≤ c
  · rw [cr8 hat]
    cases key
    · exact ck8false_at c dep bf n d w (by omega)
    · exact ck8true_at c dep bf n d w (by omega)
  cases key with
  | true =>
    rw [cr3k (by omega) hk ⟨rfl, rfl⟩]
    exact ck8true_kind c dep bf n d w (by omega)
  | false =>
  have hc : ¬ (false = true ∧ canKeyB 8 = false) := by simp
  have hz : ¬ (false = true ∧ bf.toList.isEmpty = false ∧ lessB bf (bytesS 8 n d) = false) := by simp
  by_cases hdep : 8 < dep
  · rw [cr5 (by omega) hk hc hdep]
    exact ck8_dep c dep bf n d w (by omega) (by omega)
  by_cases hn : n = 0
  · subst hn
    cases hde : d.toList.isEmpty with
    | false =>
      rw [cr4 (by omega) hk hc (by omega) (shape_bad hde rfl)]
      exact ck8_ndata c dep bf d w (by omega) (by omega) hde
    | true =>
      have hsh : shapeB 8 0 d = true := by simp [shapeB, hde]
      rw [crK (by omega) hk hc (by omega) hsh (no_tl rfl (by omega) (by omega)) (by omega), if_neg hz]
      exact ck8_ok c dep bf d w (by omega) (by omega) hde
  · have hsh : shapeB 8 n d = false := by simp [shapeB, hasDataB]; omega
    rw [cr4 (by omega) hk hc (by omega) hsh]
    exact ck8_num c dep bf n d w (by omega) (by omega) hn

/-- the reference's check of one item, at its place -/
theorem checkR_any (c dep : Nat) (key : Bool) (bf : ByteArray) (k n : Int) (d : ByteArray) (w : World) (hn0 : 0 ≤ n) (ht : Tabs w) :
    Calls Tryd.prog 61 #[itemV k n d, .int .i64 c, .int .i64 dep, .bool key, .string bf] w (CheckPost w (checkRE c dep key bf k n d)) := by
  by_cases hlo : k < 1
  · have e : ∀ j : Int, 1 ≤ j → (k == j) = false := fun j hj => by simp; omega
    by_cases hat : 512 ≤ c
    · rw [cr8 hat]
      cases key
      · exact cklofalse_at c dep bf k n d w (e 3 (by omega)) (e 4 (by omega)) (e 5 (by omega)) (e 6 (by omega)) hlo (by omega)
      · exact cklotrue_at c dep bf k n d w (e 3 (by omega)) (e 4 (by omega)) (e 5 (by omega)) (e 6 (by omega)) hlo (by omega)
    · rw [cr3 (by omega) (.inl hlo)]
      cases key
      · exact cklofalse_kind c dep bf k n d w (e 3 (by omega)) (e 4 (by omega)) (e 5 (by omega)) (e 6 (by omega)) hlo (by omega)
      · exact cklotrue_kind c dep bf k n d w (e 3 (by omega)) (e 4 (by omega)) (e 5 (by omega)) (e 6 (by omega)) hlo (by omega)
  by_cases hhi : 8 < k
  · have e : ∀ j : Int, j ≤ 8 → (k == j) = false := fun j hj => by simp; omega
    by_cases hat : 512 ≤ c
    · rw [cr8 hat]
      cases key
      · exact ckhifalse_at c dep bf k n d w (e 3 (by omega)) (e 4 (by omega)) (e 5 (by omega)) (e 6 (by omega)) hhi (by omega)
      · exact ckhitrue_at c dep bf k n d w (e 3 (by omega)) (e 4 (by omega)) (e 5 (by omega)) (e 6 (by omega)) hhi (by omega)
    · rw [cr3 (by omega) (.inr hhi)]
      cases key
      · exact ckhifalse_kind c dep bf k n d w (e 3 (by omega)) (e 4 (by omega)) (e 5 (by omega)) (e 6 (by omega)) hhi (by omega)
      · exact ckhitrue_kind c dep bf k n d w (e 3 (by omega)) (e 4 (by omega)) (e 5 (by omega)) (e 6 (by omega)) hhi (by omega)
  have hs : k = 1 ∨ k = 2 ∨ k = 3 ∨ k = 4 ∨ k = 5 ∨ k = 6 ∨ k = 7 ∨ k = 8 := by omega
  rcases hs with rfl | rfl | rfl | rfl | rfl | rfl | rfl | rfl
  · exact check_k1 c dep key bf n d w hn0
  · exact check_k2 c dep key bf n d w hn0
  · exact check_k3 c dep key bf n d w hn0
  · exact check_k4 c dep key bf n d w hn0 ht
  · exact check_k5 c dep key bf n d w hn0
  · exact check_k6 c dep key bf n d w hn0
  · exact check_k7 c dep key bf n d w hn0
  · exact check_k8 c dep key bf n d w hn0

end Go.Proofs.YtepinmeidjlmmaaDoor
