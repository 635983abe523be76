/- The law TreekeyBack. -/
import Derived.Test.YthgahjihgoiklaaTkP
namespace Go.Proofs.Ythgahjihgoiklaa
open Go.RowKit
set_option maxRecDepth 100000

/-- Verify takes what Sign gives, by any leaf -/
theorem ver_back (s m : BitVec 64) (h l : Nat) (hh : h ≤ 4) (hl : l < 2 ^ h) (A B : Option Addr) (c c2 : Nat) (w : World) (hA : Ws w A 18 (vals (sigF s l m))) (hB : Ws w B h (pathF s l h)) :
    Calls Try.prog 17 #[.agg #[.int .i64 (h : Int), .int .u64 (val (treeN s h 0))], .int .u64 (val m), .agg #[.int .i64 (l : Int), .slice A 18 c, .slice B h c2]] w fun e w' => e = .returned (.int .i64 0) ∧ Below w.heap.size w w' := by
  have hp := pow_le h hh
  have hleaf : leafB (h : Int) (l : Int) = true := by
    unfold leafB
    have hg : hgtB (h : Int) = true := by
      have : h = 0 ∨ h = 1 ∨ h = 2 ∨ h = 3 ∨ h = 4 := by omega
      rcases this with rfl | rfl | rfl | rfl | rfl <;> rfl
    rw [hg]
    simp only [Int.toNat_natCast, Bool.and_eq_true, decide_eq_true_eq]
    exact ⟨⟨trivial, by omega⟩, by exact_mod_cast hl⟩
  have h0 := ver_go h l (treeN s h 0) m A B c c2 _ _ hleaf w hA hB
  have e : cmpE (climbF l (recF (l : Int) m (vals (sigF s l m))) (pathF s l h) h) (treeN s h 0) = 0 := by
    rw [rec_sig, climb_path s l h (by omega) h (Nat.le_refl _), Nat.div_eq_of_lt hl]
    simp [cmpE]
  rw [e] at h0
  exact h0
set_option maxHeartbeats 1000000 in
theorem back4_law (s m : BitVec 64) (z H : Nat) (hz : z ≤ 255) (hH : z % 4 = H) (w : World) :
    Calls Try.prog 7 #[.int .u64 (val s), .int .u8 (z : Int), .int .u64 (val m)] w fun e w' => e = .returned (.bool true) ∧ Below w.heap.size w w' := by
  have hI : ((z : Int)) % 4 = (H : Int) := by omega
  have h4 : H ≤ 4 := by omega
  have hwr := wrap_pow H h4
  have hp := pow_le H h4
  obtain ⟨N, hN⟩ : ∃ N, 2 ^ H = N := ⟨_, rfl⟩
  rw [hN] at hwr hp
  have HN := Lib.hid hN
  go_enter Try.func7, Try.ntmps7
  go_wp2_with fail
  refine (public_ok s H h4 _).mono ?_
  rintro e w1 ⟨rfl, hb1⟩
  obtain ⟨r, hr⟩ : ∃ r, treeN s H 0 = r := ⟨_, rfl⟩
  rw [hr]
  have HR := Lib.hid hr
  have HB1 := Lib.hid hb1
  have hs1 := hb1.size
  have hk1 := Cs.new w1 24 [.int .i64 (H : Int), .int .u64 (val r)]
  have k0 := hk1.cell 0
  simp only [List.getElem?_cons_zero] at k0
  have HK1 := Lib.hid hk1
  clear hb1 hk1 hr hN
  go_wp2
  go_loopw [10] (fun i wr => ∃ k : Nat, i = .int .i64 k ∧ k ≤ N ∧ Cs wr w1.heap.size 24 [.int .i64 (H : Int), .int .u64 (val r)] ∧ Below w.heap.size w wr) (fun i _ => N - (intOf i).toNat)
  case atStart => exact ⟨0, rfl, Nat.zero_le _, HK1.out, HB1.out.alloc hs1 _⟩
  case round =>
    obtain ⟨k, rfl, hk, hK, hb⟩ := hrel
    have HB := Lib.hid hb
    have HK := Lib.hid hK
    have hlk := hK.lt
    have hsz := hb.size
    clear hb hK k0
    by_cases hkn : k < N
    · obtain ⟨m', hm'⟩ : ∃ m' : BitVec 64, IntKind.u64.wrap (val m + (k : Int)) = val m' := ⟨m + BitVec.ofNat 64 k, by
        rw [← val_add]; congr 2; unfold val; rw [BitVec.toNat_ofNat]; omega⟩
      have hwk : IntKind.u64.wrap (k : Int) = (k : Int) := by rw [IntKind.wrap_u64]; omega
      go_wp2_with fail
      refine (signS_ok s m' H k h4 (by rw [HN.out]; exact hkn) _).mono ?_
      rintro e w2 ⟨A, c, B, c2, rfl, hA, hB, hb2⟩
      have hg := (Below.refl w2.heap.size w2).alloc (Nat.le_refl _) (.cells #[.int .i64 (k : Int), .slice A 18 c, .slice B H c2] 32)
      have hS2 := Cs.new w2 32 [.int .i64 (k : Int), .slice A 18 c, .slice B H c2]
      have hK2 := (HK.out.below hb2 hlk).grow (.cells #[.int .i64 (k : Int), .slice A 18 c, .slice B H c2] 32)
      have k0 := hK2.cell 0
      have k1 := hK2.cell 1
      have s0 := hS2.cell 0
      have s1 := hS2.cell 1
      have s2 := hS2.cell 2
      simp only [List.getElem?_cons_succ, List.getElem?_cons_zero] at k0 k1 s0 s1 s2
      have hB2 := HB.out.trans (hb2.mono hsz)
      have HB2 := Lib.hid (hB2.alloc hB2.size (.cells #[.int .i64 (k : Int), .slice A 18 c, .slice B H c2] 32))
      have HA2 := Lib.hid (hA.below hg)
      have HP2 := Lib.hid (hB.below hg)
      have HK2 := Lib.hid hK2
      have hs2 := HB2.out.size
      have hlk2 := hK2.lt
      clear hg hS2 hK2 hb2 hB2 hA hB
      go_wp2_with fail
      rw [← HR.out]
      refine (ver_back s m' H k h4 (by rw [HN.out]; exact hkn) A B c c2 _ HA2.out HP2.out).mono ?_
      rw [HR.out]
      rintro e w3 ⟨rfl, hb3⟩
      have HB3 := Lib.hid (HB2.out.trans (hb3.mono hs2))
      have HK3 := Lib.hid (HK2.out.below hb3 hlk2)
      clear hb3 k0 k1 s0 s1 s2
      go_wp2
      go_roundw
      case rel => exact ⟨k + 1, by go_num, by omega, HK3.out, HB3.out⟩
      case measure => (simp [intOf] <;> omega)
    · obtain rfl : k = N := by omega
      go_wp2_with fail
      refine (awake4_any _).mono ?_
      rintro e w2 ⟨rfl, hb2⟩
      have HB2 := Lib.hid (HB.out.trans (hb2.mono hsz))
      clear hb2
      go_wp2
      go_ret
      exact ⟨rfl, HB2.out⟩
theorem back4_law_at (x : Int) (hx : 0 ≤ x ∧ x ≤ 18446744073709551615) (y : Int) (hy : 0 ≤ y ∧ y ≤ 255) (z : Int) (hz : 0 ≤ z ∧ z ≤ 18446744073709551615) (w : World) :
    Calls Try.prog 7 #[.int .u64 x, .int .u8 y, .int .u64 z] w fun e w' => e = .returned (.bool true) ∧ Below w.heap.size w w' := by
  rw [val_of hx.1 hx.2, val_of hz.1 hz.2]
  obtain ⟨Y, rfl⟩ := Int.eq_ofNat_of_zero_le hy.1
  exact back4_law _ _ Y _ (by omega) rfl w
end Go.Proofs.Ythgahjihgoiklaa
