/- The check 'awake' of layer 4; what Verify says of a signature of Sign. -/
import Derived.Test.YthgahjihgoiklaaTkH
import Derived.Test.YthgahjihgoiklaaTkJ
import Derived.Test.YthgahjihgoiklaaTkL
namespace Go.Proofs.Ythgahjihgoiklaa
open Go.RowKit
set_option maxRecDepth 100000

theorem pair_even : ∀ a : Fin 16, a.val % 2 = 0 → a.val ^^^ 1 = 2 * (a.val / 2) + 1 := by decide
theorem pair_odd : ∀ a : Fin 16, ¬ a.val % 2 = 0 → a.val ^^^ 1 = 2 * (a.val / 2) := by decide
/-- the way up from a leaf by the path of Sign goes through the tree's nodes -/
theorem climb_path (s : BitVec 64) (l h : Nat) (hl : l < 16) : ∀ k, k ≤ h → climbF l (leafF s l) (pathF s l h) k = treeN s k (l / 2 ^ k)
  | 0, _ => by simp [climbF, treeN]
  | k + 1, hk => by
    have ih := climb_path s l h hl k (by omega)
    have hp : (pathF s l h).getD k 0 = treeN s k (sib l k) := by
      simp only [pathF, List.getD]
      rw [List.getElem?_map, List.getElem?_range (by omega)]
      rfl
    have hd : l / 2 ^ (k + 1) = l / 2 ^ k / 2 := by rw [Nat.pow_succ, Nat.div_div_eq_div_mul]
    have ha : l / 2 ^ k < 16 := Nat.lt_of_le_of_lt (Nat.div_le_self _ _) hl
    have h1 := pair_even ⟨l / 2 ^ k, ha⟩
    have h2 := pair_odd ⟨l / 2 ^ k, ha⟩
    simp only [climbF, ih, hp, hd]
    unfold sib
    simp only at h1 h2
    generalize l / 2 ^ k = a at *
    by_cases h0 : a % 2 = 0
    · rw [if_pos h0, h1 h0]
      have e : a = 2 * (a / 2) := by omega
      simp only [treeN, ← e]
      simp
    · rw [if_neg h0, h2 h0]
      have e : a = 2 * (a / 2) + 1 := by omega
      simp only [treeN, ← e]
      simp
theorem sigB_rng (l : Int) (cs ps : List (BitVec 64)) (h0 : 0 ≤ l ∧ l ≤ 255) (h1 : ps.length ≤ 255) : ∀ z ∈ sigB l cs ps, 0 ≤ z ∧ z ≤ 255 := by
  intro z hz
  simp only [sigB, List.mem_append, List.mem_cons, List.not_mem_nil, or_false] at hz
  rcases hz with ((rfl | rfl) | hz) | hz
  · exact h0
  · omega
  · exact wsBytes_rng _ z hz
  · exact wsBytes_rng _ z hz
theorem public_seven (w : World) : Calls Try.prog 10 #[.int .u64 7, .int .i64 0] w fun e w' => e = .returned (.tuple #[.agg #[.int .i64 0, .int .u64 (val (treeN 7#64 0 0))], .int .i64 0]) ∧ Below w.heap.size w w' := public_ok 7#64 0 (by omega) w
theorem sign_seven (w : World) : Calls Try.prog 13 #[.int .u64 7, .int .i64 0, .int .i64 0, .int .u64 9] w fun e w' => ∃ A c B c2, e = .returned (.tuple #[.agg #[.int .i64 0, .slice A 18 c, .slice B 0 c2], .int .i64 0]) ∧
      Ws w' A 18 (vals (sigF 7#64 0 9#64)) ∧ Ws w' B 0 (pathF 7#64 0 0) ∧ Below w.heap.size w w' := signS_ok 7#64 9#64 0 0 (by omega) (by decide) w
theorem enc_seven (A B : Option Addr) (c c2 : Nat) (cs ps : List (BitVec 64)) (w : World) (hA : Ws w A 18 cs) (hB : Ws w B 0 ps) :
    Calls Try.prog 29 #[.agg #[.int .i64 0, .slice A 18 c, .slice B 0 c2]] w fun e w' => ∃ v, e = .returned (.tuple #[v, .int .i64 0]) ∧ Row w' w.heap.size v 146 (sigB 0 cs ps) ∧ Below w.heap.size w w' := encS_ok 0 0 A B c c2 cs ps rfl w hA hB
theorem ver_seven (A B : Option Addr) (c c2 : Nat) (w : World) (hA : Ws w A 18 (vals (sigF 7#64 0 9#64))) (hB : Ws w B 0 (pathF 7#64 0 0)) :
    Calls Try.prog 17 #[.agg #[.int .i64 0, .int .u64 (val (treeN 7#64 0 0))], .int .u64 9, .agg #[.int .i64 0, .slice A 18 c, .slice B 0 c2]] w fun e w' => e = .returned (.int .i64 0) ∧ Below w.heap.size w w' := by
  have h := ver_go 0 0 (treeN 7#64 0 0) 9#64 A B c c2 _ _ rfl w hA hB
  have e : cmpE (climbF 0 (recF ((0 : Nat) : Int) 9#64 (vals (sigF 7#64 0 9#64))) (pathF 7#64 0 0) 0) (treeN 7#64 0 0) = 0 := by
    have e1 : recF ((0 : Nat) : Int) 9#64 (vals (sigF 7#64 0 9#64)) = leafF 7#64 0 := rec_sig 7#64 0 9#64
    rw [e1]
    simp [cmpE, climbF, treeN]
  rw [e] at h
  exact h
set_option maxHeartbeats 2000000 in
theorem awake4_any (w : World) : Calls Try.prog 12 #[] w fun e w' => e = .returned (.bool true) ∧ Below w.heap.size w w' := by
  go_enter Try.func12, Try.ntmps12
  go_wp2_with fail
  refine (public_seven _).mono ?_
  rintro e w1 ⟨rfl, hb1⟩
  have HB1 := Lib.hid hb1
  have hs1 := hb1.size
  clear hb1
  obtain ⟨r, hr⟩ : ∃ r, treeN 7#64 0 0 = r := ⟨_, rfl⟩
  rw [hr]
  have HR := Lib.hid hr
  clear hr
  go_wp2_with fail
  refine (sign_seven _).mono ?_
  rintro e w2 ⟨A, c, B, c2, rfl, hA, hB, hb2⟩
  have hk2 := (Cs.new w1 24 [.int .i64 0, .int .u64 (val r)]).below hb2 (by simp)
  have HB2 := Lib.hid ((HB1.out.alloc hs1 (.cells #[.int .i64 0, .int .u64 (val r)] 24)).trans (hb2.mono (by simp; omega)))
  have HK2 := Lib.hid hk2
  have HA2 := Lib.hid hA
  have HP2 := Lib.hid hB
  have hs2 := HB2.out.size
  have hlk := hk2.lt
  clear hk2 hA hB hb2
  go_wp2_with fail
  refine (enc_seven A B c c2 _ _ _ (HA2.out.below ((Below.refl _ _).alloc (Nat.le_refl _) _)) (HP2.out.below ((Below.refl _ _).alloc (Nat.le_refl _) _))).mono ?_
  rintro e w3 ⟨v, rfl, hR, hb3⟩
  obtain ⟨A4, c4, rfl, _, _, _⟩ := hR.bytes (sigB_rng _ _ _ (by omega) (by simp [pathF]))
  have hg := (Below.refl w2.heap.size w2).alloc (Nat.le_refl _) (.cells #[.int .i64 0, .slice A 18 c, .slice B 0 c2] 32)
  have hS3 := (Cs.new w2 32 [.int .i64 0, .slice A 18 c, .slice B 0 c2]).below hb3 (by simp)
  have hK3 := (HK2.out.below hg hlk).below hb3 (by simp; omega)
  have k0 := hK3.cell 0
  have k1 := hK3.cell 1
  have s0 := hS3.cell 0
  have s1 := hS3.cell 1
  have s2 := hS3.cell 2
  simp only [List.getElem?_cons_succ, List.getElem?_cons_zero] at k0 k1 s0 s1 s2
  have HA3 := Lib.hid ((HA2.out.below hg).below hb3)
  have HP3 := Lib.hid ((HP2.out.below hg).below hb3)
  have HB3 := Lib.hid ((HB2.out.alloc hs2 (.cells #[.int .i64 0, .slice A 18 c, .slice B 0 c2] 32)).trans (hb3.mono (by simp; omega)))
  have hs3 := HB3.out.size
  clear hg hS3 hK3 hb3 hR
  go_wp2_with fail
  rw [← HR.out]
  refine (ver_seven A B c c2 _ HA3.out HP3.out).mono ?_
  rintro e w4 ⟨rfl, hb4⟩
  have HB4 := Lib.hid (HB3.out.trans (hb4.mono hs3))
  clear hb4
  go_wp2
  go_ret
  exact ⟨rfl, HB4.out⟩
end Go.Proofs.Ythgahjihgoiklaa
