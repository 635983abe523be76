/- One digit of a long division: a guess that is too large is lowered till it is right; plain. -/
import Derived.Test.YtampadcdmildfaaNtA
namespace Go.Proofs.Ytampadcdmildfaa

/-- what holds while the digit is guessed: n the rest that is divided, v the divisor's upper half, q the guess, r what the guess leaves of the upper half -/
structure Guess (n v1 v0 u q r : Nat) : Prop where
  eq : q * v1 + r = n
  ge : (n * 4294967296 + u) / (v1 * 4294967296 + v0) ≤ q
  le : q ≤ 4294967296

theorem Guess.top {n v1 v0 u q r : Nat} (_ : Guess n v1 v0 u q r) (hn : n < v1 * 4294967296 + v0) (hu : u < 4294967296) : (n * 4294967296 + u) / (v1 * 4294967296 + v0) < 4294967296 := by
  rw [Nat.div_lt_iff_lt_mul (by omega)]
  have : (n + 1) * 4294967296 ≤ (v1 * 4294967296 + v0) * 4294967296 := Nat.mul_le_mul_right _ hn
  rw [Nat.mul_comm 4294967296]
  omega
/-- the guess was too large -/
theorem Guess.gt {n v1 v0 u q r : Nat} (g : Guess n v1 v0 u q r) (hn : n < v1 * 4294967296 + v0) (hu : u < 4294967296) (h : 4294967296 ≤ q ∨ 4294967296 * r + u < q * v0) : (n * 4294967296 + u) / (v1 * 4294967296 + v0) < q := by
  rcases h with h | h
  · exact Nat.lt_of_lt_of_le (g.top hn hu) h
  · rw [Nat.div_lt_iff_lt_mul (by omega), Nat.mul_add, ← Nat.mul_assoc, ← g.eq, Nat.add_mul]
    omega
theorem Guess.less {n v1 v0 u q r : Nat} (g : Guess n v1 v0 u q r) (hn : n < v1 * 4294967296 + v0) (hu : u < 4294967296) (h : 4294967296 ≤ q ∨ 4294967296 * r + u < q * v0) : Guess n v1 v0 u (q - 1) (r + v1) := by
  have h1 := g.gt hn hu h
  have h2 := g.le
  have h0 : 0 < q := Nat.zero_lt_of_lt h1
  refine ⟨?_, Nat.le_sub_one_of_lt h1, by omega⟩
  obtain ⟨p, rfl⟩ : ∃ p, q = p + 1 := ⟨q - 1, by omega⟩
  have h3 := g.eq
  rw [Nat.add_mul, Nat.one_mul] at h3
  rw [Nat.add_sub_cancel]
  omega
/-- the guess is right: not too large, by either way out of the loop -/
theorem Guess.done {n v1 v0 u q r : Nat} (g : Guess n v1 v0 u q r) (hv : 0 < v1) (h : q * v0 ≤ 4294967296 * r + u) : (n * 4294967296 + u) / (v1 * 4294967296 + v0) = q := by
  refine Nat.le_antisymm g.ge ?_
  rw [Nat.le_div_iff_mul_le (by omega), Nat.mul_add, ← Nat.mul_assoc, ← g.eq, Nat.add_mul]
  omega
theorem Guess.out {n v1 v0 u q r : Nat} (g : Guess n v1 v0 u q r) (hv : 0 < v1) (hv0 : v0 < 4294967296) (h : 4294967296 ≤ r) : (n * 4294967296 + u) / (v1 * 4294967296 + v0) = q := by
  refine g.done hv ?_
  have h1 : q * v0 ≤ 4294967296 * v0 := Nat.mul_le_mul_right _ g.le
  have h2 : 4294967296 * v0 ≤ 4294967296 * r := Nat.mul_le_mul_left _ (by omega)
  omega
/-- the first guess -/
theorem Guess.first (n v1 v0 u : Nat) (hn : n < v1 * 4294967296 + v0) (hv0 : v0 ≤ v1) (hv : 0 < v1) (hu : u < 4294967296) : Guess n v1 v0 u (n / v1) (n % v1) := by
  refine ⟨by rw [Nat.mul_comm]; exact Nat.div_add_mod _ _, ?_, ?_⟩
  · have h1 : n < (n / v1 + 1) * v1 := by
      have := Nat.div_add_mod n v1
      have := Nat.mod_lt n hv
      rw [Nat.add_mul, Nat.one_mul, Nat.mul_comm]
      omega
    apply Nat.le_of_lt_succ
    rw [Nat.div_lt_iff_lt_mul (by omega), Nat.mul_add]
    have h2 : (n + 1) * 4294967296 ≤ (n / v1 + 1) * v1 * 4294967296 := Nat.mul_le_mul_right _ h1
    rw [Nat.mul_assoc] at h2
    have h3 : 0 ≤ (n / v1 + 1) * v0 := Nat.zero_le _
    rw [Nat.succ_eq_add_one]
    omega
  · have h1 : n ≤ 4294967296 * v1 + v1 - 1 := by omega
    have h2 : n / v1 < 4294967296 + 1 := by
      rw [Nat.div_lt_iff_lt_mul hv, Nat.add_mul, Nat.one_mul]
      omega
    omega
/-- what a digit leaves -/
theorem digit_left (n v u q : Nat) (hq : (n * 4294967296 + u) / v = q) : n * 4294967296 + u = q * v + (n * 4294967296 + u) % v := by
  have := Nat.div_add_mod (n * 4294967296 + u) v
  rw [hq, Nat.mul_comm] at this
  exact this.symm
theorem two_digits (n v u1 u0 : Nat) : ((n * 4294967296 + u1) % v * 4294967296 + u0) % v = (n * 18446744073709551616 + u1 * 4294967296 + u0) % v := by
  rw [Nat.add_mod, Nat.mod_mul_mod, ← Nat.add_mod, Nat.add_mul, Nat.mul_assoc]
end Go.Proofs.Ytampadcdmildfaa
