/- word and tagOf of the program. -/
import Derived.Test.YtgfcbgnlkiebhaaSpB
namespace Go.Proofs.Ytgfcbgnlkiebhaa
open Go.RowKit
set_option maxRecDepth 100000
theorem wordE_any (A : Option Addr) (n c : Nat) (zs : List Int) (w : World) (hb : Bytes w A n zs) (hn : n = 8) :
    Calls Try.prog 27 #[.slice A n c] w fun e w' => e = .returned (.int .u64 (val (rdG zs n))) ∧ w = w' := by
  subst hn
  go_enter Try.func27, Try.ntmps27
  go_wp2_with fail
  go_loop [3, 8] (fun x i => ∃ k : Nat, k ≤ 8 ∧ i = .int .i64 k ∧ x = .int .u64 (val (rdG zs k))) (fun _ i => 8 - (intOf i).toNat)
  case atStart => exact ⟨0, Nat.zero_le _, rfl, rfl⟩
  case round =>
    obtain ⟨k, hk, rfl, rfl⟩ := hrel
    by_cases hlt : k < 8
    · obtain ⟨a, rfl, hcell⟩ := hb.at_ k hlt
      obtain ⟨z0, z1⟩ := hb.byte k hlt
      generalize hz : zs.getD k 0 = z at *
      have Hz := Lib.hid hz
      clear hz
      go_wp2
      go_round
      case rel => exact ⟨k + 1, by omega, by go_num, by rw [rdG_step _ _ z0 z1, ← Hz.out]; rfl⟩
      case measure => simp [intOf]; omega
    · have hkn : k = 8 := by omega
      subst hkn
      go_wp2
      go_ret
      exact ⟨rfl, rfl⟩
end Go.Proofs.Ytgfcbgnlkiebhaa
