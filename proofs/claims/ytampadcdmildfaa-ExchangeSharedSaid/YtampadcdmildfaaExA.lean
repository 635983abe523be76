/- Products and powers modulo the prime, plain. -/
import Derived.Test.YtampadcdmildfaaNtB
namespace Go.Proofs.Ytampadcdmildfaa

def PP : Nat := 2305843009213693951
def mulN (a b : Nat) : Nat := a * b % 2305843009213693951
def powN (a n : Nat) : Nat := a ^ n % 2305843009213693951
theorem mulN_lt (a b : Nat) : mulN a b < 2305843009213693951 := Nat.mod_lt _ (by decide)
theorem powN_lt (a n : Nat) : powN a n < 2305843009213693951 := Nat.mod_lt _ (by decide)
theorem mulN_comm (a b : Nat) : mulN a b = mulN b a := by unfold mulN; rw [Nat.mul_comm]
theorem mulN_assoc (a b c : Nat) : mulN (mulN a b) c = mulN a (mulN b c) := by
  unfold mulN
  rw [Nat.mod_mul_mod, Nat.mul_mod_mod, Nat.mul_assoc]
theorem mulN_add (a b c : Nat) : mulN a ((b + c) % 2305843009213693951) = (mulN a b + mulN a c) % 2305843009213693951 := by
  unfold mulN
  rw [Nat.mul_mod_mod, Nat.mul_add, ← Nat.add_mod]
theorem mulN_one (a : Nat) (h : a < 2305843009213693951) : mulN a 1 = a := by
  unfold mulN
  rw [Nat.mul_one, Nat.mod_eq_of_lt h]
theorem mulN_mod (a b : Nat) : mulN (a % 2305843009213693951) (b % 2305843009213693951) = mulN a b := by
  unfold mulN
  rw [← Nat.mul_mod]
theorem mulN_modl (a b : Nat) : mulN (a % 2305843009213693951) b = mulN a b := by unfold mulN; rw [Nat.mod_mul_mod]
theorem powN_mod (a n : Nat) : powN (a % 2305843009213693951) n = powN a n := by unfold powN; rw [← Nat.pow_mod]
theorem powN_zero (a : Nat) : powN a 0 = 1 := by unfold powN; rw [Nat.pow_zero]
theorem powN_add (a m n : Nat) : powN a (m + n) = mulN (powN a m) (powN a n) := by
  unfold powN mulN
  rw [Nat.pow_add, ← Nat.mul_mod]
theorem powN_succ (a n : Nat) : powN a (n + 1) = mulN (powN a n) a := by
  unfold powN mulN
  rw [Nat.pow_succ, Nat.mod_mul_mod]
theorem powN_two (a n : Nat) : powN a (2 * n) = mulN (powN a n) (powN a n) := by rw [Nat.two_mul, powN_add]
theorem powN_sq (a n : Nat) : powN (mulN a a) n = powN a (2 * n) := by
  unfold powN mulN
  rw [← Nat.pow_mod, Nat.mul_pow, Nat.two_mul, Nat.pow_add]
theorem powN_pow (g m n : Nat) : powN (powN g m) n = powN g (m * n) := by
  unfold powN
  rw [← Nat.pow_mod, Nat.pow_mul]
theorem powN_swap (g m n : Nat) : powN (powN g m) n = powN (powN g n) m := by rw [powN_pow, powN_pow, Nat.mul_comm]
theorem powN_inv (a e : Nat) (he : e + 2 = 2305843009213693951) : mulN a (powN a e) = if a % 2305843009213693951 = 0 then 0 else 1 := by
  have h := inv_prm prmP (by decide) a
  rw [show 2305843009213693951 - 2 = e by omega] at h
  exact h
/-- a number's front digits, one more of them -/
theorem front (B m : Nat) : B / 2 ^ m = 2 * (B / 2 ^ (m + 1)) + B / 2 ^ m % 2 := by
  rw [Nat.pow_succ, ← Nat.div_div_eq_div_mul]
  omega
theorem front0 {B m : Nat} (h : B / 2 ^ m % 2 = 0) : B / 2 ^ m = 2 * (B / 2 ^ (m + 1)) := by have := front B m; omega
theorem front1 {B m : Nat} (h : B / 2 ^ m % 2 = 1) : B / 2 ^ m = 2 * (B / 2 ^ (m + 1)) + 1 := by have := front B m; omega
theorem double0 (A B m : Nat) (h : B / 2 ^ m % 2 = 0) : mulN (B / 2 ^ (m + 1)) A * 2 % 2305843009213693951 = mulN (B / 2 ^ m) A := by
  rw [front0 h]
  unfold mulN
  rw [Nat.mod_mul_mod, Nat.mul_comm _ 2, Nat.mul_assoc]
theorem double1 (A B m : Nat) (h : B / 2 ^ m % 2 = 1) : (mulN (B / 2 ^ (m + 1)) A * 2 % 2305843009213693951 + A) % 2305843009213693951 = mulN (B / 2 ^ m) A := by
  rw [front1 h]
  unfold mulN
  rw [Nat.mod_mul_mod, Nat.mod_add_mod, Nat.add_mul, Nat.one_mul, Nat.mul_comm _ 2, Nat.mul_assoc]
theorem power0 (a n m : Nat) (h : n / 2 ^ m % 2 = 0) : mulN (powN a (n / 2 ^ (m + 1))) (powN a (n / 2 ^ (m + 1))) = powN a (n / 2 ^ m) := by
  rw [front0 h, powN_two]
theorem power1 (a n m : Nat) (h : n / 2 ^ m % 2 = 1) : mulN (mulN (powN a (n / 2 ^ (m + 1))) (powN a (n / 2 ^ (m + 1)))) a = powN a (n / 2 ^ m) := by
  rw [front1 h, powN_succ, powN_two]
/-- the exponent of a secret -/
def expN (s : Nat) : Nat := 2 + s % (2305843009213693951 - 3)
theorem agree (g a b : Nat) : powN (powN g (expN b)) (expN a) = powN (powN g (expN a)) (expN b) := powN_swap _ _ _
end Go.Proofs.Ytampadcdmildfaa
