/- Words read from bytes. -/
import Derived.Test.YtgfcbgnlkiebhaaSipR
namespace Go.Proofs.Ytgfcbgnlkiebhaa
open Go.RowKit
set_option maxRecDepth 100000

/-- the word of which the bytes are read so far -/
def rdG (zs : List Int) : Nat → BitVec 64
  | 0 => 0#64
  | k + 1 => (rdG zs k <<< 8) ||| BitVec.ofInt 64 (zs.getD k 0)
theorem rdG_step (x : BitVec 64) (z : Int) (h0 : 0 ≤ z) (h1 : z ≤ 255) : bits .or .u64 (IntKind.u64.wrap (val x * 256)) z = val (x <<< 8 ||| BitVec.ofInt 64 z) := by
  have e : z = val (BitVec.ofInt 64 z) := val_of h0 (by omega)
  have e2 : (256 : Int) = 2 ^ 8 := by decide
  generalize BitVec.ofInt 64 z = y at *
  rw [e, e2, val_shl, val_or]
theorem wordG_any (A : Option Addr) (n c : Nat) (zs : List Int) (w : World) (hb : Bytes w A n zs) (hn : n = 8) :
    Calls Try.prog 17 #[.slice A n c] w fun e w' => e = .returned (.int .u64 (val (rdG zs n))) ∧ w = w' := by
  subst hn
  go_enter Try.func17, Try.ntmps17
  go_wp2
  go_loop [3, 4] (fun x i => ∃ k : Nat, k ≤ 8 ∧ i = .int .i64 k ∧ x = .int .u64 (val (rdG zs k))) (fun _ i => 8 - (intOf i).toNat)
  case atStart => exact ⟨0, Nat.zero_le _, rfl, rfl⟩
  case round =>
    obtain ⟨k, hk, rfl, rfl⟩ := hrel
    by_cases hlt : k < 8
    · obtain ⟨a, rfl, hcell⟩ := hb.at_ k hlt
      obtain ⟨z0, z1⟩ := hb.byte k hlt
      generalize hz : zs.getD k 0 = z at *
      have Hz := Lib.hid hz
      clear hz
      go_wp2
      go_round
      case rel => exact ⟨k + 1, by omega, by go_num, by rw [rdG_step _ _ z0 z1, ← Hz.out]; rfl⟩
      case measure => simp [intOf]; omega
    · have hkn : k = 8 := by omega
      subst hkn
      go_wp2
      go_ret
      exact ⟨rfl, rfl⟩
theorem or_toNatG (r b : BitVec 64) (hr : r.toNat < 2 ^ 56) (hb : b.toNat < 2 ^ 8) : (r <<< 8 ||| b).toNat = 256 * r.toNat + b.toNat := by
  rw [BitVec.toNat_or, BitVec.toNat_shiftLeft, Nat.shiftLeft_eq, Nat.mod_eq_of_lt (by omega), ← Nat.shiftLeft_eq, ← Nat.shiftLeft_add_eq_or_of_lt hb, Nat.shiftLeft_eq]
  omega
theorem wb_natG (x : BitVec 64) (k : Nat) (hk : k < 8) : wb x k = ((x.toNat / 2 ^ (56 - 8 * k) % 256 : Nat) : Int) := by
  rw [← wb_eq]
  unfold val
  rw [show 8 * (7 - k) = 56 - 8 * k by omega]
  simp
theorem rdG_wbs (x : BitVec 64) : ∀ k, k ≤ 8 → (rdG (wbs x 8) k).toNat = x.toNat / 2 ^ (64 - 8 * k)
  | 0, _ => by
    have := x.isLt
    simp only [rdG]
    rw [Nat.div_eq_of_lt (by simpa using this)]
    rfl
  | k + 1, h => by
    have hz : (wbs x 8).getD k 0 = wb x k := by
      unfold wbs
      simp [List.getD, show k < 8 by omega]
    have ih := rdG_wbs x k (by omega)
    have hx := x.isLt
    have hlt : x.toNat / 2 ^ (64 - 8 * k) < 2 ^ 56 := by
      rw [Nat.div_lt_iff_lt_mul (Nat.two_pow_pos _), ← Nat.pow_add]
      exact Nat.lt_of_lt_of_le hx (Nat.pow_le_pow_right (by decide) (by omega))
    have hbn : (BitVec.ofInt 64 (wb x k)).toNat = x.toNat / 2 ^ (56 - 8 * k) % 256 := by
      rw [wb_natG x k (by omega)]
      have : x.toNat / 2 ^ (56 - 8 * k) % 256 < 256 := Nat.mod_lt _ (by decide)
      rw [BitVec.ofInt_natCast, BitVec.toNat_ofNat]
      omega
    unfold rdG
    rw [hz, or_toNatG _ _ (by rw [ih]; exact hlt) (by rw [hbn]; exact Nat.mod_lt _ (by decide)), ih, hbn]
    have e : x.toNat / 2 ^ (64 - 8 * k) = x.toNat / 2 ^ (56 - 8 * k) / 256 := by
      rw [Nat.div_div_eq_div_mul, show (256 : Nat) = 2 ^ 8 by rfl, ← Nat.pow_add, show 56 - 8 * k + 8 = 64 - 8 * k by omega]
    rw [e, show 64 - 8 * (k + 1) = 56 - 8 * k by omega]
    omega
theorem rdG_back (x : BitVec 64) : rdG (wbs x 8) 8 = x := by
  apply BitVec.eq_of_toNat_eq
  rw [rdG_wbs x 8 (by omega)]
  simp
theorem drop_appG {α : Type} (p q : List α) (n : Nat) : (p ++ q).drop (p.length + n) = q.drop n := by
  rw [List.drop_append, List.drop_eq_nil_of_le (by omega), List.nil_append, Nat.add_sub_cancel_left]
end Go.Proofs.Ytgfcbgnlkiebhaa
