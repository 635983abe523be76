/- mix of the reference. -/
import Derived.Test.YtgfcbgnlkiebhaaSeA
import Derived.Test.YtgfcbgnlkiebhaaHs
namespace Go.Proofs.Ytgfcbgnlkiebhaa
open Go.RowKit
set_option maxRecDepth 100000

def xorB (a b : Int) : Int := ((a.toNat ^^^ b.toNat : Nat) : Int)
theorem xor8n (a b : Nat) (ha : a < 256) (hb : b < 256) : bits .xor .u8 (a : Int) (b : Int) = ((a ^^^ b : Nat) : Int) := by
  have h : a ^^^ b < 2 ^ 8 := Nat.xor_lt_two_pow ha hb
  show IntKind.u8.wrap ((BitVec.ofInt 8 (a : Int) ^^^ BitVec.ofInt 8 (b : Int)).toNat : Int) = _
  rw [BitVec.ofInt_natCast, BitVec.ofInt_natCast, BitVec.toNat_xor, BitVec.toNat_ofNat, BitVec.toNat_ofNat, Nat.mod_eq_of_lt (by omega), Nat.mod_eq_of_lt (by omega), IntKind.wrap_u8]
  omega
theorem xor8 {a b : Int} (ha : 0 ≤ a ∧ a ≤ 255) (hb : 0 ≤ b ∧ b ≤ 255) : bits .xor .u8 a b = xorB a b := by
  have h := xor8n a.toNat b.toNat (by omega) (by omega)
  rw [show ((a.toNat : Nat) : Int) = a by omega, show ((b.toNat : Nat) : Int) = b by omega] at h
  exact h
theorem xorB_rng {a b : Int} (ha : 0 ≤ a ∧ a ≤ 255) (hb : 0 ≤ b ∧ b ≤ 255) : 0 ≤ xorB a b ∧ xorB a b ≤ 255 := by
  have h : a.toNat ^^^ b.toNat < 2 ^ 8 := Nat.xor_lt_two_pow (by omega) (by omega)
  unfold xorB
  omega
theorem xorB_back {a b : Int} (ha : 0 ≤ a) : xorB (xorB a b) b = a := by
  unfold xorB
  rw [Int.toNat_natCast, Nat.xor_assoc, Nat.xor_self, Nat.xor_zero]
  omega
/-- the first k bytes, mixed -/
def mixL (zs ss : List Int) (k : Nat) : List Int := (List.range k).map fun i => xorB (zs.getD i 0) (ss.getD i 0)
theorem mixL_succ (zs ss : List Int) (k : Nat) : mixL zs ss k ++ [xorB (zs.getD k 0) (ss.getD k 0)] = mixL zs ss (k + 1) := by simp [mixL, List.range_succ]
theorem mixL_len (zs ss : List Int) (k : Nat) : (mixL zs ss k).length = k := by simp [mixL]
set_option maxHeartbeats 2000000 in
theorem mixR_any (x y : BitVec 64) (A : Option Addr) (n c : Nat) (zs : List Int) (w : World) (hZ : Bytes w A n zs) (hn : n ≤ 1024) :
    Calls Try.prog 25 #[.int .u64 (val x), .int .u64 (val y), .slice A n c] w fun e w' => ∃ v, e = .returned v ∧ Row w' w.heap.size v n (mixL zs (strN x y n) n) ∧ Below w.heap.size w w' := by
  have HZ := Lib.hid hZ
  have ea : askN (n : Int) = n := by unfold askN; rw [if_neg (by omega), if_neg (by omega)]; omega
  have hst := fun W => streamR_any x y (n : Int) W
  rw [ea] at hst
  have HST := Lib.hid hst
  clear hZ ea hst
  go_enter Try.func25, Try.ntmps25
  go_wp2_with fail
  refine (HST.out _).mono ?_
  rintro e w1 ⟨S, sc, rfl, hs, hsc, hb1⟩
  obtain ⟨ss, hss⟩ : ∃ ss, strN x y n = ss := ⟨_, rfl⟩
  rw [hss] at hs
  have HSS := Lib.hid hss
  have HSb := Lib.hid hs
  have HZ1 := Lib.hid (HZ.out.below hb1)
  have HB1 := Lib.hid hb1
  clear hs hss hb1
  go_wp2_with fail
  go_loopw [8, 9] (fun v iv wr => ∃ k : Nat, iv = .int .i64 (k : Int) ∧ k ≤ n ∧ Row wr w1.heap.size v k (mixL zs ss k) ∧ Below w1.heap.size w1 wr) (fun _ iv _ => n - (intOf iv).toNat)
  case atStart => exact ⟨0, rfl, by omega, Row.nil _ _, Below.refl _ _⟩
  case round =>
    obtain ⟨k, rfl, hk, hR, hb⟩ := hrel
    have HR := Lib.hid hR
    have HB := Lib.hid hb
    have hsz := hb.size
    clear hR hb
    by_cases hlt : k < n
    · have hltI : (k : Int) < (n : Int) := by omega
      obtain ⟨a, rfl, hc0⟩ := HZ1.out.at_ k hlt
      obtain ⟨s, rfl, hc1⟩ := HSb.out.at_ k hlt
      have hz8 := HZ1.out.byte k hlt
      have hs8 := HSb.out.byte k hlt
      have HC0 := Lib.hid hc0
      have HC1 := Lib.hid hc1
      have hx := xor8 hz8 hs8
      have hq8 := xorB_rng hz8 hs8
      have hsucc := mixL_succ zs ss k
      clear hc0 hc1
      generalize zs.getD k 0 = z1 at *
      generalize ss.getD k 0 = z2 at *
      generalize xorB z1 z2 = q at *
      have HSC := Lib.hid hsucc
      clear hz8 hs8 hsucc
      go_wp2_with fail
      refine wp_region_held (S := fun W' => Below w1.heap.size w1 W') (by kernel_rfl) ?_
      refine hs_take (i := 0) (v := ?_) rfl rfl (by kernel_rfl) (by kernel_rfl) (by kernel_rfl) (fun _ _ _ h => h) (by rfl) HB.out.drew ?_ ?_
      rotate_left
      · intro W' hW'
        go_simp
        try with_reducible rfl
      simp only [Act.put, List.setIfInBounds_toArray, List.set_cons_zero, List.set_cons_succ]
      refine hs_take (i := 1) (v := ?_) rfl rfl (by kernel_rfl) (by kernel_rfl) (by kernel_rfl) (fun _ _ _ h => h) (by rfl) HB.out.drew ?_ ?_
      rotate_left
      · intro W' hW'
        go_simp
        try with_reducible rfl
      simp only [Act.put, List.setIfInBounds_toArray, List.set_cons_zero, List.set_cons_succ]
      refine hs_take (i := 2) (v := ?_) rfl rfl (by kernel_rfl) (by kernel_rfl) (by kernel_rfl) (fun _ _ _ h => h) (by rfl) HB.out.drew ?_ ?_
      rotate_left
      · intro W' hW'
        go_simp
        try with_reducible rfl
      simp only [Act.put, List.setIfInBounds_toArray, List.set_cons_zero, List.set_cons_succ]
      refine hs_take (i := 3) (v := ?_) rfl rfl (by kernel_rfl) (by kernel_rfl) (by kernel_rfl) (fun _ _ _ h => h) (by rfl) HB.out.drew ?_ ?_
      rotate_left
      · intro W' hW'
        go_simp
        try with_reducible rfl
      simp only [Act.put, List.setIfInBounds_toArray, List.set_cons_zero, List.set_cons_succ]
      refine hs_take (i := 4) (v := ?_) rfl rfl (by kernel_rfl) (by kernel_rfl) (by kernel_rfl) (fun _ _ _ h => h) (by rfl) HB.out.drew ?_ ?_
      rotate_left
      · intro W' hW'
        have e0 := (hW'.cell (cell_in HC0.out)).trans HC0.out
        go_simp
        try with_reducible rfl
      simp only [Act.put, List.setIfInBounds_toArray, List.set_cons_zero, List.set_cons_succ]
      refine hs_take (i := 5) (v := ?_) rfl rfl (by kernel_rfl) (by kernel_rfl) (by kernel_rfl) (fun _ _ _ h => h) (by rfl) HB.out.drew ?_ ?_
      rotate_left
      · intro W' hW'
        go_simp
        try with_reducible rfl
      simp only [Act.put, List.setIfInBounds_toArray, List.set_cons_zero, List.set_cons_succ]
      refine hs_take (i := 6) (v := ?_) rfl rfl (by kernel_rfl) (by kernel_rfl) (by kernel_rfl) (fun _ _ _ h => h) (by rfl) HB.out.drew ?_ ?_
      rotate_left
      · intro W' hW'
        go_simp
        try with_reducible rfl
      simp only [Act.put, List.setIfInBounds_toArray, List.set_cons_zero, List.set_cons_succ]
      refine hs_take (i := 7) (v := ?_) rfl rfl (by kernel_rfl) (by kernel_rfl) (by kernel_rfl) (fun _ _ _ h => h) (by rfl) HB.out.drew ?_ ?_
      rotate_left
      · intro W' hW'
        go_simp
        try with_reducible rfl
      simp only [Act.put, List.setIfInBounds_toArray, List.set_cons_zero, List.set_cons_succ]
      refine hs_take (i := 8) (v := ?_) rfl rfl (by kernel_rfl) (by kernel_rfl) (by kernel_rfl) (fun _ _ _ h => h) (by rfl) HB.out.drew ?_ ?_
      rotate_left
      · intro W' hW'
        have e0 := (hW'.cell (cell_in HC1.out)).trans HC1.out
        go_simp
        try with_reducible rfl
      simp only [Act.put, List.setIfInBounds_toArray, List.set_cons_zero, List.set_cons_succ]
      refine hs_take (i := 9) (v := ?_) rfl rfl (by kernel_rfl) (by kernel_rfl) (by kernel_rfl) (fun _ _ _ h => h) (by rfl) HB.out.drew ?_ ?_
      rotate_left
      · intro W' hW'
        go_simp
        try with_reducible rfl
      simp only [Act.put, List.setIfInBounds_toArray, List.set_cons_zero, List.set_cons_succ]
      refine hs_call (i := 10) (by kernel_rfl) rfl (fun K' hK => ?_)
      go_simp
      refine hK.out _ _ (HB.out.drew.alloc hsz _) ?_
      clear hK K'
      refine hs_call (i := 11) (by kernel_rfl) rfl (fun K' hK => ?_)
      refine hs_row (by rfl) _ _ rfl w1.heap.size _ k (mixL zs ss k) (some ⟨wr.heap.size, 0, none⟩) 1 1 [q] (HR.out.below ((Below.refl _ wr).drew.alloc (Nat.le_refl _) _)) rfl (hs_byte wr.drew q hq8) rfl rfl (by omega) (by simp; omega) ?_
      intro v4 w4 hr4 hb4
      have hS : Below w1.heap.size w1 w4 := (HB.out.drew.alloc hsz _).trans hb4
      refine hK.out _ _ hS ?_
      clear hK K'
      rw [HSC.out] at hr4
      have HR4 := Lib.hid hr4
      have HS4 := Lib.hid hS
      clear hr4 hb4 hS
      refine hs_call (i := 12) (by kernel_rfl) rfl (fun K' hK => ?_)
      go_simp
      refine hK.out _ _ HS4.out ?_
      clear hK K'
      refine wpAnyH_done (by kernel_rfl) ?_ _
      go_wp2
      go_roundw
      case rel => exact ⟨k + 1, by go_num, by omega, HR4.out, HS4.out⟩
      case measure => (simp [intOf] <;> omega)
    · have hkn : k = n := by omega
      subst hkn
      have HRn : Hid (Row wr w.heap.size u8 k (mixL zs (strN x y k) k)) := Lib.hid (by rw [HSS.out]; exact Row.lower HR.out HB1.out.size)
      have HBn := Lib.hid (HB1.out.trans (HB.out.mono HB1.out.size))
      go_wp2
      go_ret
      exact ⟨u8, rfl, HRn.out, HBn.out⟩
end Go.Proofs.Ytgfcbgnlkiebhaa
