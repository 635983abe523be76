/- The laws TreekeyPublics and TreekeyRaw. -/
import Derived.Test.YthgahjihgoiklaaTkM
namespace Go.Proofs.Ythgahjihgoiklaa
open Go.RowKit
set_option maxRecDepth 100000

def pH (h : Int) : Int := if hgtB h = true then h else 0
def pR (s : BitVec 64) (h : Int) : BitVec 64 := if hgtB h = true then treeN s h.toNat 0 else 0#64
def pE (h : Int) : Int := if hgtB h = true then 0 else 9
theorem public_all (s : BitVec 64) (h : Int) (w : World) :
    Calls Try.prog 10 #[.int .u64 (val s), .int .i64 h] w fun e w' => e = .returned (.tuple #[.agg #[.int .i64 (pH h), .int .u64 (val (pR s h))], .int .i64 (pE h)]) ∧ Below w.heap.size w w' := by
  unfold pH pR pE
  cases hg : hgtB h with
  | false => exact public_bad s h hg w
  | true =>
    obtain ⟨H, rfl⟩ : ∃ H : Nat, h = (H : Int) := ⟨h.toNat, by rcases hgt_cases hg with e | e | e | e | e <;> omega⟩
    simpa using public_ok s H (by rcases hgt_cases hg with e | e | e | e | e <;> omega) w
theorem publicR_all (s : BitVec 64) (h : Int) (w : World) :
    Calls Try.prog 11 #[.int .u64 (val s), .int .i64 h] w fun e w' => e = .returned (.tuple #[.agg #[.int .i64 (pH h), .int .u64 (val (pR s h))], .int .i64 (pE h)]) ∧ Below w.heap.size w w' := by
  unfold pH pR pE
  cases hg : hgtB h with
  | false => exact publicR_bad s h hg w
  | true =>
    obtain ⟨H, rfl⟩ : ∃ H : Nat, h = (H : Int) := ⟨h.toNat, by rcases hgt_cases hg with e | e | e | e | e <;> omega⟩
    simpa using publicR_ok s H (by rcases hgt_cases hg with e | e | e | e | e <;> omega) w
set_option maxHeartbeats 2000000 in
theorem publics_law (s : BitVec 64) (h : Int) (w : World) :
    Calls Try.prog 3 #[.int .u64 (val s), .int .i64 h] w fun e w' => e = .returned (.bool true) ∧ Below w.heap.size w w' := by
  go_enter Try.func3, Try.ntmps3
  go_wp2_with fail
  refine (public_all s h _).mono ?_
  rintro e w1 ⟨rfl, hb1⟩
  have HB1 := Lib.hid hb1
  have hs1 := hb1.size
  clear hb1
  go_wp2_with fail
  refine (publicR_all s h _).mono ?_
  rintro e w2 ⟨rfl, hb2⟩
  have hk2 := (Cs.new w1 24 [.int .i64 (pH h), .int .u64 (val (pR s h))]).below hb2 (by simp)
  have HB2 := Lib.hid ((HB1.out.alloc hs1 (.cells #[.int .i64 (pH h), .int .u64 (val (pR s h))] 24)).trans (hb2.mono (by simp; omega)))
  have HK2 := Lib.hid hk2
  have hl2 := hk2.lt
  have hs2 := HB2.out.size
  clear hb2 hk2
  go_wp2_with fail
  refine (public_all s _ _).mono ?_
  rintro e w3 ⟨rfl, hb3⟩
  have g2 := (Below.refl w2.heap.size w2).alloc (Nat.le_refl _) (.cells #[.int .i64 (pH h), .int .u64 (val (pR s h))] 24)
  have hk3 := (HK2.out.below g2 hl2).below hb3 (by simp; omega)
  have hm3 := (Cs.new w2 24 [.int .i64 (pH h), .int .u64 (val (pR s h))]).below hb3 (by simp)
  have HB3 := Lib.hid ((HB2.out.alloc hs2 (.cells #[.int .i64 (pH h), .int .u64 (val (pR s h))] 24)).trans (hb3.mono (by simp; omega)))
  have HK3 := Lib.hid hk3
  have HM3 := Lib.hid hm3
  have hs3 := HB3.out.size
  have hlk3 := hk3.lt
  have hlm3 := hm3.lt
  clear hb3 hk3 hm3 g2
  go_wp2_with fail
  refine (publicR_all s _ _).mono ?_
  rintro e w4 ⟨rfl, hb4⟩
  obtain ⟨z, hz⟩ : ∃ z, wrap64 (bits .and .i64 h 7 - 1) = z := ⟨_, rfl⟩
  rw [hz] at hb4 ⊢
  clear hz
  have g3 := (Below.refl w3.heap.size w3).alloc (Nat.le_refl _) (.cells #[.int .i64 (pH z), .int .u64 (val (pR s z))] 24)
  have hk4 := (HK3.out.below g3 hlk3).below hb4 (by simp; omega)
  have hm4 := (HM3.out.below g3 hlm3).below hb4 (by simp; omega)
  have hn4 := (Cs.new w3 24 [.int .i64 (pH z), .int .u64 (val (pR s z))]).below hb4 (by simp)
  have HB4 := Lib.hid ((HB3.out.alloc hs3 (.cells #[.int .i64 (pH z), .int .u64 (val (pR s z))] 24)).trans (hb4.mono (by simp; omega)))
  have hs4 := HB4.out.size
  have k0 := (hk4.grow (.cells #[.int .i64 (pH z), .int .u64 (val (pR s z))] 24)).cell 0
  have k1 := (hk4.grow (.cells #[.int .i64 (pH z), .int .u64 (val (pR s z))] 24)).cell 1
  have m0 := (hm4.grow (.cells #[.int .i64 (pH z), .int .u64 (val (pR s z))] 24)).cell 0
  have m1 := (hm4.grow (.cells #[.int .i64 (pH z), .int .u64 (val (pR s z))] 24)).cell 1
  have n0 := (hn4.grow (.cells #[.int .i64 (pH z), .int .u64 (val (pR s z))] 24)).cell 0
  have n1 := (hn4.grow (.cells #[.int .i64 (pH z), .int .u64 (val (pR s z))] 24)).cell 1
  simp only [List.getElem?_cons_succ, List.getElem?_cons_zero] at k0 k1 m0 m1 n0 n1
  clear hb4 hk4 hm4 hn4 g3
  generalize pH h = a1 at *
  generalize pE h = a2 at *
  generalize pR s h = a3 at *
  generalize pH z = c1 at *
  generalize pE z = c2 at *
  generalize pR s z = c3 at *
  go_wp2_with fail
  refine (awake4_any _).mono ?_
  rintro e w5 ⟨rfl, hb5⟩
  have HB5 := Lib.hid ((HB4.out.alloc hs4 (.cells #[.int .i64 c1, .int .u64 (val c3)] 24)).trans (hb5.mono (by simp; omega)))
  clear hb5
  go_wp2
  go_ret
  exact ⟨rfl, HB5.out⟩
theorem publics_law_at (x : Int) (hx : 0 ≤ x ∧ x ≤ 18446744073709551615) (h : Int) (w : World) :
    Calls Try.prog 3 #[.int .u64 x, .int .i64 h] w fun e w' => e = .returned (.bool true) ∧ Below w.heap.size w w' := by
  rw [val_of hx.1 hx.2]
  exact publics_law _ h w
/-- Verify of both, of any signature value: the answer -/
theorem raw_both (h : Int) (root m : BitVec 64) (l : Int) (A B : Option Addr) (n c n2 c2 : Nat) (cs ps : List (BitVec 64)) (w : World) (hA : Ws w A n cs) (hB : Ws w B n2 ps) :
    Calls Try.prog 6 #[.agg #[.int .i64 h, .int .u64 (val root)], .int .u64 (val m), .agg #[.int .i64 l, .slice A n c, .slice B n2 c2]] w fun e w' => e = .returned (.bool true) ∧ Below w.heap.size w w' := by
  have HA := Lib.hid hA
  have HB := Lib.hid hB
  clear hA hB
  by_cases h1 : 40 < n
  · have h1I : (40 : Int) < (n : Int) := by omega
    go_enter Try.func6, Try.ntmps6
    go_wp2_with fail
    refine (awake4_any _).mono ?_
    rintro e w1 ⟨rfl, hb⟩
    have HB1 := Lib.hid ((((Below.refl _ w).alloc (Nat.le_refl _) _).alloc (by simp) _).trans (hb.mono (by simp; omega)))
    clear hb
    go_wp2
    go_ret
    exact ⟨rfl, HB1.out⟩
  · by_cases h2 : 20 < n2
    · have h1I : (n : Int) ≤ (40 : Int) := by omega
      have h2I : (20 : Int) < (n2 : Int) := by omega
      go_enter Try.func6, Try.ntmps6
      go_wp2_with fail
      refine (awake4_any _).mono ?_
      rintro e w1 ⟨rfl, hb⟩
      have HB1 := Lib.hid ((((Below.refl _ w).alloc (Nat.le_refl _) _).alloc (by simp) _).trans (hb.mono (by simp; omega)))
      clear hb
      go_wp2
      go_ret
      exact ⟨rfl, HB1.out⟩
    · have h1I : (n : Int) ≤ (40 : Int) := by omega
      have h2I : (n2 : Int) ≤ (20 : Int) := by omega
      go_enter Try.func6, Try.ntmps6
      go_wp2_with fail
      refine two_cs _ _ [.int .i64 h, .int .u64 (val root)] [.int .i64 l, .slice A n c, .slice B n2 c2] ?_
      intro w1 hk1 hs1 hb1
      have HK := Lib.hid hk1
      have HS := Lib.hid hs1
      have HB1 := Lib.hid hb1
      have HA1 := Lib.hid (HA.out.below hb1)
      have HP1 := Lib.hid (HB.out.below hb1)
      have hlk := hk1.lt
      have hls := hs1.lt
      have hsz := hb1.size
      clear hk1 hs1 hb1
      refine wp_region_held (S := fun W => Below w1.heap.size w1 W) (by kernel_rfl) ?_
      refine heldS_take (i := 0) (v := ?_) rfl rfl (by kernel_rfl) (by kernel_rfl) (by kernel_rfl) (fun _ _ _ h => h) (by rfl) ((Below.refl _ w1).drew) ?_ ?_
      rotate_left
      · intro W hW
        have e0 := (HK.out.below hW hlk).cell 0
        have e1 := (HK.out.below hW hlk).cell 1
        simp only [List.getElem?_cons_succ, List.getElem?_cons_zero] at e0 e1
        go_simp
        try with_reducible rfl
      simp only [Act.put, List.setIfInBounds_toArray, List.set_cons_zero, List.set_cons_succ]
      refine heldS_take (i := 1) (v := ?_) rfl rfl (by kernel_rfl) (by kernel_rfl) (by kernel_rfl) (fun _ _ _ h => h) (by rfl) ((Below.refl _ w1).drew) ?_ ?_
      rotate_left
      · intro W hW
        go_simp
        try with_reducible rfl
      simp only [Act.put, List.setIfInBounds_toArray, List.set_cons_zero, List.set_cons_succ]
      refine heldS_take (i := 2) (v := ?_) rfl rfl (by kernel_rfl) (by kernel_rfl) (by kernel_rfl) (fun _ _ _ h => h) (by rfl) ((Below.refl _ w1).drew) ?_ ?_
      rotate_left
      · intro W hW
        have e0 := (HS.out.below hW hls).cell 0
        have e1 := (HS.out.below hW hls).cell 1
        have e2 := (HS.out.below hW hls).cell 2
        simp only [List.getElem?_cons_succ, List.getElem?_cons_zero] at e0 e1 e2
        go_simp
        try with_reducible rfl
      simp only [Act.put, List.setIfInBounds_toArray, List.set_cons_zero, List.set_cons_succ]
      refine heldS_take (i := 4) (v := ?_) rfl rfl (by kernel_rfl) (by kernel_rfl) (by kernel_rfl) (fun _ _ _ h => h) (by rfl) ((Below.refl _ w1).drew) ?_ ?_
      rotate_left
      · intro W hW
        have e0 := (HK.out.below hW hlk).cell 0
        have e1 := (HK.out.below hW hlk).cell 1
        simp only [List.getElem?_cons_succ, List.getElem?_cons_zero] at e0 e1
        go_simp
        try with_reducible rfl
      simp only [Act.put, List.setIfInBounds_toArray, List.set_cons_zero, List.set_cons_succ]
      refine heldS_take (i := 5) (v := ?_) rfl rfl (by kernel_rfl) (by kernel_rfl) (by kernel_rfl) (fun _ _ _ h => h) (by rfl) ((Below.refl _ w1).drew) ?_ ?_
      rotate_left
      · intro W hW
        go_simp
        try with_reducible rfl
      simp only [Act.put, List.setIfInBounds_toArray, List.set_cons_zero, List.set_cons_succ]
      refine heldS_take (i := 6) (v := ?_) rfl rfl (by kernel_rfl) (by kernel_rfl) (by kernel_rfl) (fun _ _ _ h => h) (by rfl) ((Below.refl _ w1).drew) ?_ ?_
      rotate_left
      · intro W hW
        have e0 := (HS.out.below hW hls).cell 0
        have e1 := (HS.out.below hW hls).cell 1
        have e2 := (HS.out.below hW hls).cell 2
        simp only [List.getElem?_cons_succ, List.getElem?_cons_zero] at e0 e1 e2
        go_simp
        try with_reducible rfl
      simp only [Act.put, List.setIfInBounds_toArray, List.set_cons_zero, List.set_cons_succ]
      refine heldS_call (i := 3) (by kernel_rfl) rfl (fun K' hK => ?_)
      go_simp
      refine (verify_any h root m l A B n c n2 c2 cs ps _ (HA1.out.below ((Below.refl _ w1).drew)) (HP1.out.below ((Below.refl _ w1).drew))).mono ?_
      rintro e w2 ⟨rfl, hb⟩
      have hS : Below w1.heap.size w1 w2 := ((Below.refl _ w1).drew).trans hb
      refine hK.out _ _ hS ?_
      clear hK K'
      have HB2 := Lib.hid hS
      have hs2 := hS.size
      clear hb hS
      refine heldS_call (i := 7) (by kernel_rfl) rfl (fun K' hK => ?_)
      go_simp
      refine (verifyR_any h root m l A B n c n2 c2 cs ps _ (HA1.out.below HB2.out) (HP1.out.below HB2.out)).mono ?_
      rintro e w3 ⟨rfl, hb⟩
      have hS : Below w1.heap.size w1 w3 := HB2.out.trans (hb.mono hs2)
      refine hK.out _ _ hS ?_
      clear hK K'
      have HB3 := Lib.hid hS
      have hs3 := hS.size
      clear hb hS
      generalize verE h root m l cs ps = q at *
      refine heldS_take (i := 8) (v := ?_) rfl rfl (by kernel_rfl) (by kernel_rfl) (by kernel_rfl) (fun _ _ _ h => h) (by rfl) HB3.out ?_ ?_
      rotate_left
      · intro W hW
        go_simp
        try with_reducible rfl
      simp only [Act.put, List.setIfInBounds_toArray, List.set_cons_zero, List.set_cons_succ]
      refine heldS_take (i := 9) (v := ?_) rfl rfl (by kernel_rfl) (by kernel_rfl) (by kernel_rfl) (fun _ _ _ h => h) (by rfl) HB3.out ?_ ?_
      rotate_left
      · intro W hW
        go_simp
        try with_reducible rfl
      simp only [Act.put, List.setIfInBounds_toArray, List.set_cons_zero, List.set_cons_succ]
      refine heldS_call (i := 10) (by kernel_rfl) rfl (fun K' hK => ?_)
      go_simp
      refine (awake4_any _).mono ?_
      rintro e w4 ⟨rfl, hb⟩
      have hS : Below w1.heap.size w1 w4 := HB3.out.trans (hb.mono hs3)
      refine hK.out _ _ hS ?_
      clear hK K'
      have HB4 := Lib.hid hS
      clear hb hS
      refine heldS_take (i := 11) (v := ?_) rfl rfl (by kernel_rfl) (by kernel_rfl) (by kernel_rfl) (fun _ _ _ h => h) (by rfl) HB4.out ?_ ?_
      rotate_left
      · intro W hW
        go_simp
        try with_reducible rfl
      simp only [Act.put, List.setIfInBounds_toArray, List.set_cons_zero, List.set_cons_succ]
      refine heldS_call (i := 12) (by kernel_rfl) rfl (fun K' hK => ?_)
      go_simp
      refine hK.out _ _ (HB4.out) ?_
      clear hK K'
      refine wpAnyH_done (by kernel_rfl) ?_ _
      go_wp2
      go_ret
      exact ⟨rfl, HB1.out.trans (HB4.out.mono hsz)⟩
theorem raw_law_at (h : Int) (root : BitVec 64) (x : Int) (hx : 0 ≤ x ∧ x ≤ 18446744073709551615) (l : Int) (A B : Option Addr) (n c n2 c2 : Nat) (cs ps : List (BitVec 64)) (w : World) (hA : Ws w A n cs) (hB : Ws w B n2 ps) :
    Calls Try.prog 6 #[.agg #[.int .i64 h, .int .u64 (val root)], .int .u64 x, .agg #[.int .i64 l, .slice A n c, .slice B n2 c2]] w fun e w' => e = .returned (.bool true) ∧ Below w.heap.size w w' := by
  rw [val_of hx.1 hx.2]
  exact raw_both h root _ l A B n c n2 c2 cs ps w hA hB
end Go.Proofs.Ythgahjihgoiklaa
