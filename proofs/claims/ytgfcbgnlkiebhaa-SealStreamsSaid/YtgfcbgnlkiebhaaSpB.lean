/- combine of the program. -/
import Derived.Test.YtgfcbgnlkiebhaaSpA
import Derived.Test.YtgfcbgnlkiebhaaCsA
namespace Go.Proofs.Ytgfcbgnlkiebhaa
open Go.RowKit
set_option maxRecDepth 100000
theorem xorB_comm (a b : Int) : xorB a b = xorB b a := by unfold xorB; rw [Nat.xor_comm]
/-- the stream of which the first k bytes are mixed -/
def mxL (zs ss : List Int) (k : Nat) : List Int := mixL zs ss k ++ ss.drop k
theorem mxL_zero (zs ss : List Int) : mxL zs ss 0 = ss := by simp [mxL, mixL]
theorem mxL_full (zs ss : List Int) (n : Nat) (h : ss.length = n) : mxL zs ss n = mixL zs ss n := by
  unfold mxL
  rw [List.drop_of_length_le (by omega), List.append_nil]
theorem mxL_at (zs ss : List Int) (k : Nat) : (mxL zs ss k).getD k 0 = ss.getD k 0 := by
  unfold mxL
  simp only [List.getD]
  rw [List.getElem?_append_right (by rw [mixL_len]; omega), mixL_len, Nat.sub_self, List.getElem?_drop, Nat.add_zero]
theorem mxL_set (zs ss : List Int) (k : Nat) (h : k < ss.length) : (mxL zs ss k).set k (xorB (ss.getD k 0) (zs.getD k 0)) = mxL zs ss (k + 1) := by
  unfold mxL
  rw [List.set_append_right _ _ (by rw [mixL_len]; omega), mixL_len, Nat.sub_self, List.drop_eq_getElem_cons h, List.set_cons_zero, ← mixL_succ, xorB_comm]
  simp
set_option maxHeartbeats 2000000 in
theorem combineE_any (x y : BitVec 64) (A : Option Addr) (n c : Nat) (zs : List Int) (w : World) (hZ : Bytes w A n zs) (hn : n ≤ 1024) :
    Calls Try.prog 23 #[.int .u64 (val x), .int .u64 (val y), .slice A n c] w fun e w' => ∃ v, e = .returned v ∧ Row w' w.heap.size v n (mixL zs (strN x y n) n) ∧ Below w.heap.size w w' := by
  have HZ := Lib.hid hZ
  have ea : askN (n : Int) = n := by unfold askN; rw [if_neg (by omega), if_neg (by omega)]; omega
  have hst := fun W => streamE_any x y (n : Int) W
  rw [ea] at hst
  have HST := Lib.hid hst
  clear hZ ea hst
  go_enter Try.func23, Try.ntmps23
  go_wp2_with fail
  refine (HST.out _).mono ?_
  rintro e w1 ⟨v1, rfl, hs, hb1⟩
  obtain ⟨S, sc, rfl, hc1, hm1, _⟩ := hs.bytes (strN_rng x y n)
  have HRS : Hid (∀ z ∈ strN x y n, 0 ≤ z ∧ z ≤ 255) := Lib.hid (strN_rng x y n)
  obtain ⟨ss, hss⟩ : ∃ ss, strN x y n = ss := ⟨_, rfl⟩
  rw [hss] at hs HRS
  have HSS := Lib.hid hss
  have hsl := hs.1
  have HSb := Lib.hid hs
  have HB1 := Lib.hid hb1
  clear hs hss hb1
  go_wp2_with fail
  go_loopw [17] (fun iv wr => ∃ k : Nat, iv = .int .i64 (k : Int) ∧ k ≤ n ∧ Hid (Row wr w.heap.size (.slice S n sc) n (mxL zs ss k)) ∧ Hid (Below w.heap.size w wr)) (fun iv _ => n - (intOf iv).toNat)
  case atStart => exact ⟨0, rfl, by omega, Lib.hid (by rw [mxL_zero]; exact HSb.out), HB1⟩
  case round =>
    obtain ⟨k, rfl, hk, HR, HB⟩ := hrel
    by_cases hlt : k < n
    · have hltI : (k : Int) < (n : Int) := by omega
      have HZ1 := HZ.out.below HB.out
      obtain ⟨a, rfl, hc0⟩ := HZ1.at_ k hlt
      obtain ⟨g, cap, hv, hg, h1, h2, hcell, hfree⟩ := HR.out.slot (by omega)
      cases hv
      have hcJ := hcell k hlt
      have hfJ := hfree k hlt
      rw [mxL_at] at hcJ
      have hz8 := HZ.out.byte k hlt
      have hs8 : 0 ≤ ss.getD k 0 ∧ ss.getD k 0 ≤ 255 := at_rng HRS.out k
      have hx := xor8 hs8 hz8
      have hset := mxL_set zs ss k (by omega)
      have hp := HR.out.put k hlt (xorB (ss.getD k 0) (zs.getD k 0))
      rw [hset] at hp
      have hb := HB.out.setCell (p := ⟨g, k, none⟩) hg (.int .u8 (xorB (ss.getD k 0) (zs.getD k 0)))
      have HP := Lib.hid hp
      have HB2 := Lib.hid hb
      generalize zs.getD k 0 = z1 at *
      generalize ss.getD k 0 = z2 at *
      generalize xorB z2 z1 = q at *
      clear hz8 hs8 hset hp hb hcell hfree HZ1
      go_wp2
      go_roundw
      case rel => exact ⟨k + 1, by go_num, by omega, HP, HB2⟩
      case measure => (simp [intOf] <;> omega)
    · have hkn : k = n := by omega
      subst hkn
      have HRn : Hid (Row wr w.heap.size (.slice S k sc) k (mixL zs (strN x y k) k)) := Lib.hid (by rw [HSS.out, ← mxL_full zs ss k hsl]; exact HR.out)
      go_wp2
      go_ret
      exact ⟨_, rfl, HRn.out, HB.out⟩
end Go.Proofs.Ytgfcbgnlkiebhaa
