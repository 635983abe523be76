/- Flash memory, plain: errors, ranges, what a change leaves. -/
import Derived.Test.YtgoajnljgbcmdaaSipR
import Derived.Test.YtgoajnljgbcmdaaHs
namespace Go.Proofs.Ytgoajnljgbcmdaa
open Go.RowKit
set_option maxRecDepth 100000

/-- the error of Validate -/
def valE (P : Int) (n : Nat) : Int := if P < 512 ∨ 8192 < P then 9 else if n = 0 ∨ n % P.toNat ≠ 0 ∨ 8 < n / P.toNat then 4 else 0
/-- the error of a range of a page -/
def areE (P : Int) (n : Nat) (pg a k : Int) : Int := if valE P n ≠ 0 then valE P n else if pg < 0 ∨ ((n / P.toNat : Nat) : Int) ≤ pg ∨ a < 0 ∨ k < 0 ∨ P < a ∨ P - a < k then 9 else 0
theorem valE_ok {P : Int} {n : Nat} (h : valE P n = 0) : ∃ p : Nat, P = (p : Int) ∧ 512 ≤ p ∧ p ≤ 8192 ∧ 0 < n ∧ n % p = 0 ∧ n / p ≤ 8 := by
  unfold valE at h
  by_cases h1 : P < 512 ∨ 8192 < P
  · rw [if_pos h1] at h
    omega
  · rw [if_neg h1] at h
    by_cases h2 : n = 0 ∨ n % P.toNat ≠ 0 ∨ 8 < n / P.toNat
    · rw [if_pos h2] at h
      omega
    · obtain ⟨p, rfl⟩ := Int.eq_ofNat_of_zero_le (show 0 ≤ P by omega)
      simp only [Int.toNat_natCast] at h2
      exact ⟨p, rfl, by omega, by omega, by omega, by omega, by omega⟩
theorem valE_big {P : Int} {n : Nat} (h : valE P n = 0) : n ≤ 65536 := by
  obtain ⟨p, rfl, h1, h2, h3, h4, h5⟩ := valE_ok h
  have h6 := Nat.div_add_mod n p
  have h7 : p * (n / p) ≤ 8192 * 8 := Nat.mul_le_mul h2 h5
  omega
/-- a range that is there -/
theorem areE_ok {P : Int} {n : Nat} {pg a k : Int} (h : areE P n pg a k = 0) : ∃ p q b m : Nat, P = (p : Int) ∧ pg = (q : Int) ∧ a = (b : Int) ∧ k = (m : Int) ∧ 512 ≤ p ∧ p ≤ 8192 ∧ n ≤ 65536 ∧ q < 8 ∧ b + m ≤ p ∧ q * p + b + m ≤ n ∧ valE P n = 0 := by
  unfold areE at h
  by_cases h1 : valE P n ≠ 0
  · rw [if_pos h1] at h
    exact absurd h h1
  · rw [if_neg h1] at h
    have hv : valE P n = 0 := by omega
    have hn := valE_big hv
    obtain ⟨p, rfl, h2, h3, h4, h5, h6⟩ := valE_ok hv
    by_cases h7 : pg < 0 ∨ ((n / (p : Int).toNat : Nat) : Int) ≤ pg ∨ a < 0 ∨ k < 0 ∨ (p : Int) < a ∨ (p : Int) - a < k
    · rw [if_pos h7] at h
      omega
    · simp only [Int.toNat_natCast] at h7
      obtain ⟨q, rfl⟩ := Int.eq_ofNat_of_zero_le (show 0 ≤ pg by omega)
      obtain ⟨b, rfl⟩ := Int.eq_ofNat_of_zero_le (show 0 ≤ a by omega)
      obtain ⟨m, rfl⟩ := Int.eq_ofNat_of_zero_le (show 0 ≤ k by omega)
      have hq : q + 1 ≤ n / p := by omega
      have h8 : (q + 1) * p ≤ n := (Nat.le_div_iff_mul_le (by omega)).1 hq
      rw [Nat.add_mul, Nat.one_mul] at h8
      exact ⟨p, q, b, m, rfl, rfl, rfl, rfl, h2, h3, hn, by omega, by omega, by omega, hv⟩
/-- where a range begins -/
def fromE (P pg a : Int) : Nat := (pg * P + a).toNat
theorem fromE_nat (p q b : Nat) : fromE (p : Int) (q : Int) (b : Int) = q * p + b := by unfold fromE; omega
/-- bytes from a place on, changed one by one -/
def chgL (zs : List Int) (s : Nat) (g : Nat → Int → Int) : Nat → List Int
  | 0 => zs
  | d + 1 => (chgL zs s g d).set (s + d) (g d ((chgL zs s g d).getD (s + d) 0))
theorem chgL_len (zs : List Int) (s : Nat) (g : Nat → Int → Int) : ∀ d, (chgL zs s g d).length = zs.length
  | 0 => rfl
  | d + 1 => by rw [chgL, List.length_set, chgL_len zs s g d]
theorem chgL_add (zs : List Int) (s : Nat) (g : Nat → Int → Int) (d : Nat) : ∀ k, chgL zs s g (d + k) = chgL (chgL zs s g d) (s + d) (fun i => g (d + i)) k
  | 0 => rfl
  | k + 1 => by
      rw [← Nat.add_assoc, chgL, chgL, chgL_add zs s g d k, Nat.add_assoc]
theorem chgL_rng {zs : List Int} {s : Nat} {g : Nat → Int → Int} (h : ∀ z ∈ zs, 0 ≤ z ∧ z ≤ 255) (hg : ∀ i z, 0 ≤ z ∧ z ≤ 255 → 0 ≤ g i z ∧ g i z ≤ 255) : ∀ d, ∀ z ∈ chgL zs s g d, 0 ≤ z ∧ z ≤ 255
  | 0 => h
  | d + 1 => by
      intro z hz
      rcases List.mem_or_eq_of_mem_set hz with h1 | h1
      · exact chgL_rng h hg d z h1
      · rw [h1]
        apply hg
        have hd := chgL_rng (s := s) h hg d
        simp only [List.getD]
        rcases hx : (chgL zs s g d)[s + d]? with _ | x
        · exact ⟨by decide, by decide⟩
        · exact hd x (List.mem_of_getElem? hx)
theorem chgL_at (zs : List Int) (s : Nat) (g : Nat → Int → Int) (i : Nat) : ∀ d, s + d ≤ zs.length → (chgL zs s g d).getD i 0 = if s ≤ i ∧ i < s + d then g (i - s) (zs.getD i 0) else zs.getD i 0
  | 0, _ => by rw [if_neg (by omega)]; rfl
  | d + 1, h => by
      have hl := chgL_len zs s g d
      have ih := chgL_at zs s g i d (by omega)
      have ih2 := chgL_at zs s g (s + d) d (by omega)
      rw [if_neg (by omega)] at ih2
      rw [chgL, ih2]
      by_cases he : i = s + d
      · subst he
        rw [if_pos (by omega)]
        simp [List.getD, hl, show s + d < zs.length by omega]
      · have e : ((chgL zs s g d).set (s + d) (g d (zs.getD (s + d) 0))).getD i 0 = (chgL zs s g d).getD i 0 := by
          simp [List.getD, show ¬ s + d = i by omega]
        rw [e, ih]
        by_cases h1 : s ≤ i ∧ i < s + d
        · rw [if_pos h1, if_pos (by omega)]
        · rw [if_neg h1, if_neg (by omega)]
/-- how many bytes a budget allows, what is left of it, the error -/
def doneN (b : Int) (k : Nat) : Nat := if b < 0 ∨ (k : Int) ≤ b then k else b.toNat
def leftB (b : Int) (k : Nat) : Int := if b < 0 then b else if (k : Int) ≤ b then b - k else 0
def powE6 (b : Int) (k : Nat) : Int := if b < 0 ∨ (k : Int) ≤ b then 0 else 16
theorem doneN_le (b : Int) (k : Nat) : doneN b k ≤ k := by unfold doneN; split <;> omega
/-- what Program writes, what Erase writes -/
def andB (a b : Int) : Int := ((a.toNat &&& b.toNat : Nat) : Int)
def prgG (bs : List Int) : Nat → Int → Int := fun i z => andB z (bs.getD i 0)
def eraG : Nat → Int → Int := fun _ _ => 255
theorem andB_rng {a b : Int} (ha : 0 ≤ a ∧ a ≤ 255) : 0 ≤ andB a b ∧ andB a b ≤ 255 := by
  have h : a.toNat &&& b.toNat ≤ a.toNat := Nat.and_le_left
  unfold andB
  omega
theorem prgG_rng (bs : List Int) : ∀ i z, 0 ≤ z ∧ z ≤ 255 → 0 ≤ prgG bs i z ∧ prgG bs i z ≤ 255 := fun _ _ h => andB_rng h
theorem eraG_rng : ∀ i z, 0 ≤ z ∧ z ≤ 255 → 0 ≤ eraG i z ∧ eraG i z ≤ 255 := fun _ _ _ => ⟨by unfold eraG; decide, by unfold eraG; decide⟩
theorem and8n (a b : Nat) (ha : a < 256) (hb : b < 256) : bits .and .u8 (a : Int) (b : Int) = ((a &&& b : Nat) : Int) := by
  have h : a &&& b ≤ a := Nat.and_le_left
  show IntKind.u8.wrap ((BitVec.ofInt 8 (a : Int) &&& BitVec.ofInt 8 (b : Int)).toNat : Int) = _
  rw [BitVec.ofInt_natCast, BitVec.ofInt_natCast, BitVec.toNat_and, BitVec.toNat_ofNat, BitVec.toNat_ofNat, Nat.mod_eq_of_lt (by omega), Nat.mod_eq_of_lt (by omega), IntKind.wrap_u8]
  omega
theorem and8 {a b : Int} (ha : 0 ≤ a ∧ a ≤ 255) (hb : 0 ≤ b ∧ b ≤ 255) : bits .and .u8 a b = andB a b := by
  have h := and8n a.toNat b.toNat (by omega) (by omega)
  have e1 : ((a.toNat : Nat) : Int) = a := by omega
  have e2 : ((b.toNat : Nat) : Int) = b := by omega
  rw [e1, e2] at h
  exact h
end Go.Proofs.Ytgoajnljgbcmdaa
