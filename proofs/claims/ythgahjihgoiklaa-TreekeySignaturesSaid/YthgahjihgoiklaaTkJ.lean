/- Verify of the reference; both as one function. -/
import Derived.Test.YthgahjihgoiklaaTkI
namespace Go.Proofs.Ythgahjihgoiklaa
open Go.RowKit
set_option maxRecDepth 100000

theorem verify_any (h : Int) (root m : BitVec 64) (l : Int) (A B : Option Addr) (n c n2 c2 : Nat) (cs ps : List (BitVec 64)) (w : World) (hA : Ws w A n cs) (hB : Ws w B n2 ps) :
    Calls Try.prog 17 #[.agg #[.int .i64 h, .int .u64 (val root)], .int .u64 (val m), .agg #[.int .i64 l, .slice A n c, .slice B n2 c2]] w fun e w' => e = .returned (.int .i64 (verE h root m l cs ps)) ∧ Below w.heap.size w w' := by
  unfold verE
  cases hh : leafB h l with
  | false => simpa using ver_range h root m l A B n c n2 c2 hh w
  | true =>
    obtain ⟨h1, h2, _⟩ := leaf_lt hh
    obtain ⟨H, rfl⟩ : ∃ H : Nat, h = (H : Int) := ⟨h.toNat, by rcases hgt_cases h1 with e | e | e | e | e <;> omega⟩
    obtain ⟨L, rfl⟩ := Int.eq_ofNat_of_zero_le h2
    have hl1 := hA.len
    have hl2 := hB.len
    simp only [Int.toNat_natCast, hl1, hl2]
    by_cases e2 : n2 = H
    · subst e2
      by_cases e1 : n = 18
      · subst e1
        simpa using ver_go n2 L root m A B c c2 cs ps hh w hA hB
      · simpa [e1] using ver_chains n2 root m L A B n c c2 hh e1 w
    · simpa [e2] using ver_path H root m L A B n c n2 c2 hh (by omega) w
set_option maxHeartbeats 1000000 in
theorem verR_hgt (h : Int) (root m : BitVec 64) (l : Int) (A B : Option Addr) (n c n2 c2 : Nat) (hh : hgtB h = false) (w : World) :
    Calls Try.prog 18 #[.agg #[.int .i64 h, .int .u64 (val root)], .int .u64 (val m), .agg #[.int .i64 l, .slice A n c, .slice B n2 c2]] w fun e w' => e = .returned (.int .i64 9) ∧ Below w.heap.size w w' := by
  have HH := Lib.hid hh
  clear hh
  go_enter Try.func18, Try.ntmps18
  go_wp2_with fail
  refine (hgtR_any h _).mono ?_
  rintro e w' ⟨rfl, rfl⟩
  rw [HH.out]
  go_wp2
  go_ret
  exact ⟨rfl, ((Below.refl _ _).alloc (Nat.le_refl _) _).alloc (by simp) _⟩
set_option maxHeartbeats 1000000 in
theorem verR_neg (h : Int) (root m : BitVec 64) (l : Int) (A B : Option Addr) (n c n2 c2 : Nat) (hh : hgtB h = true) (hl : l < 0) (w : World) :
    Calls Try.prog 18 #[.agg #[.int .i64 h, .int .u64 (val root)], .int .u64 (val m), .agg #[.int .i64 l, .slice A n c, .slice B n2 c2]] w fun e w' => e = .returned (.int .i64 9) ∧ Below w.heap.size w w' := by
  have HH := Lib.hid hh
  clear hh
  go_enter Try.func18, Try.ntmps18
  go_wp2_with fail
  refine (hgtR_any h _).mono ?_
  rintro e w' ⟨rfl, rfl⟩
  rw [HH.out]
  go_wp2
  go_ret
  exact ⟨rfl, ((Below.refl _ _).alloc (Nat.le_refl _) _).alloc (by simp) _⟩
set_option maxHeartbeats 1000000 in
theorem verR_big (h L N : Nat) (root m : BitVec 64) (A B : Option Addr) (n c n2 c2 : Nat) (hh : hgtB (h : Int) = true) (hN : 2 ^ h = N) (hl : N ≤ L) (w : World) :
    Calls Try.prog 18 #[.agg #[.int .i64 (h : Int), .int .u64 (val root)], .int .u64 (val m), .agg #[.int .i64 (L : Int), .slice A n c, .slice B n2 c2]] w fun e w' => e = .returned (.int .i64 9) ∧ Below w.heap.size w w' := by
  have HH := Lib.hid hh
  have hh4 : h ≤ 4 := by rcases hgt_cases hh with e | e | e | e | e <;> omega
  have hwr := wrap_pow h hh4
  rw [hN] at hwr
  have hlI : (N : Int) ≤ (L : Int) := by omega
  clear hh hN
  go_enter Try.func18, Try.ntmps18
  go_wp2_with fail
  refine (hgtR_any _ _).mono ?_
  rintro e w' ⟨rfl, rfl⟩
  rw [HH.out]
  go_wp2
  go_ret
  exact ⟨rfl, ((Below.refl _ _).alloc (Nat.le_refl _) _).alloc (by simp) _⟩
set_option maxHeartbeats 1000000 in
theorem verR_chains (h L N : Nat) (root m : BitVec 64) (A B : Option Addr) (n c n2 c2 : Nat) (hh : hgtB (h : Int) = true) (hN : 2 ^ h = N) (hl : L < N) (hn : n ≠ 18) (w : World) :
    Calls Try.prog 18 #[.agg #[.int .i64 (h : Int), .int .u64 (val root)], .int .u64 (val m), .agg #[.int .i64 (L : Int), .slice A n c, .slice B n2 c2]] w fun e w' => e = .returned (.int .i64 4) ∧ Below w.heap.size w w' := by
  have HH := Lib.hid hh
  have hh4 : h ≤ 4 := by rcases hgt_cases hh with e | e | e | e | e <;> omega
  have hwr := wrap_pow h hh4
  rw [hN] at hwr
  have hlI : (L : Int) < (N : Int) := by omega
  clear hh hN
  go_enter Try.func18, Try.ntmps18
  go_wp2_with fail
  refine (hgtR_any _ _).mono ?_
  rintro e w' ⟨rfl, rfl⟩
  rw [HH.out]
  go_wp2
  go_ret
  exact ⟨rfl, ((Below.refl _ _).alloc (Nat.le_refl _) _).alloc (by simp) _⟩
set_option maxHeartbeats 1000000 in
theorem verR_path (h L N : Nat) (root m : BitVec 64) (A B : Option Addr) (c n2 c2 : Nat) (hh : hgtB (h : Int) = true) (hN : 2 ^ h = N) (hl : L < N) (hn : n2 ≠ h) (w : World) :
    Calls Try.prog 18 #[.agg #[.int .i64 (h : Int), .int .u64 (val root)], .int .u64 (val m), .agg #[.int .i64 (L : Int), .slice A 18 c, .slice B n2 c2]] w fun e w' => e = .returned (.int .i64 4) ∧ Below w.heap.size w w' := by
  have HH := Lib.hid hh
  have hh4 : h ≤ 4 := by rcases hgt_cases hh with e | e | e | e | e <;> omega
  have hwr := wrap_pow h hh4
  rw [hN] at hwr
  have hlI : (L : Int) < (N : Int) := by omega
  have hnI : ¬ (n2 : Int) = (h : Int) := by omega
  clear hh hN
  go_enter Try.func18, Try.ntmps18
  go_wp2_with fail
  refine (hgtR_any _ _).mono ?_
  rintro e w' ⟨rfl, rfl⟩
  rw [HH.out]
  go_wp2
  go_ret
  exact ⟨rfl, ((Below.refl _ _).alloc (Nat.le_refl _) _).alloc (by simp) _⟩
set_option maxHeartbeats 2000000 in
theorem verR_go (h L N : Nat) (root m : BitVec 64) (A B : Option Addr) (c c2 : Nat) (cs ps : List (BitVec 64)) (hh : hgtB (h : Int) = true) (hN : 2 ^ h = N) (hl : L < N) (w : World) (hA : Ws w A 18 cs) (hB : Ws w B h ps) :
    Calls Try.prog 18 #[.agg #[.int .i64 (h : Int), .int .u64 (val root)], .int .u64 (val m), .agg #[.int .i64 (L : Int), .slice A 18 c, .slice B h c2]] w fun e w' => e = .returned (.int .i64 (cmpE (climbF L (recF L m cs) ps h) root)) ∧ Below w.heap.size w w' := by
  have HH := Lib.hid hh
  have hh4 : h ≤ 4 := by rcases hgt_cases hh with e | e | e | e | e <;> omega
  have hwr := wrap_pow h hh4
  have hp := pow_le h hh4
  rw [hN] at hwr hp
  have hlI : (L : Int) < (N : Int) := by omega
  have hL : L < 16 := by omega
  have HA := Lib.hid hA
  have HB := Lib.hid hB
  clear hh hN hA hB
  go_enter Try.func18, Try.ntmps18
  go_wp2_with fail
  refine (hgtR_any _ _).mono ?_
  rintro e w' ⟨rfl, rfl⟩
  rw [HH.out]
  go_wp2_with fail
  have hb0 := ((Below.refl w.heap.size w).alloc (Nat.le_refl _) (.cells #[.int .i64 (h : Int), .int .u64 (val root)] 24)).alloc (by simp) (.cells #[.int .i64 (L : Int), .slice A 18 c, .slice B h c2] 32)
  have hk0 := (Cs.new w 24 [.int .i64 (h : Int), .int .u64 (val root)]).below ((Below.refl _ _).alloc (Nat.le_refl _) (.cells #[.int .i64 (L : Int), .slice A 18 c, .slice B h c2] 32)) (by simp)
  have hs0 := Cs.new (w.alloc (.cells #[.int .i64 (h : Int), .int .u64 (val root)] 24)) 32 [.int .i64 (L : Int), .slice A 18 c, .slice B h c2]
  rw [World.size_alloc] at hs0
  refine (recR_any (L : Int) m A c cs _ (HA.out.below hb0)).mono ?_
  rintro e w1 ⟨rfl, hb1⟩
  have HK := Lib.hid (hk0.below hb1 (by simp; omega))
  have HS := Lib.hid (hs0.below hb1 (by simp))
  have HB1 := Lib.hid (hb0.trans (hb1.mono (by simp; omega)))
  clear hk0 hs0 hb0 hb1 hwr
  have hsz := HB1.out.size
  have hlk := HK.out.lt
  have hls := HS.out.lt
  obtain ⟨x, hx⟩ : ∃ x, recF (L : Int) m cs = x := ⟨_, rfl⟩
  rw [hx]
  have HX := Lib.hid hx
  clear hx
  go_wp2
  go_loopw [7, 9] (fun v i wr => ∃ k : Nat, i = .int .i64 k ∧ k ≤ h ∧ v = .int .u64 (val (climbF L x ps k)) ∧ Below w1.heap.size w1 wr) (fun _ i _ => h - (intOf i).toNat)
  case atStart => exact ⟨0, rfl, Nat.zero_le _, rfl, Below.refl _ _⟩
  case round =>
    obtain ⟨k, rfl, hk, rfl, hb⟩ := hrel
    have HBr := Lib.hid hb
    have hszr := hb.size
    have k0 := (HK.out.below hb hlk).cell 0
    have k1 := (HK.out.below hb hlk).cell 1
    have s0 := (HS.out.below hb hls).cell 0
    have s2 := (HS.out.below hb hls).cell 2
    simp only [List.getElem?_cons_succ, List.getElem?_cons_zero] at k0 k1 s0 s2
    by_cases hkn : k < h
    · have hkI : (k : Int) < (h : Int) := by omega
      obtain ⟨a, ha, ha2, ha3⟩ := bit_eq L k hL
      obtain ⟨p, rfl, hc⟩ := (HB.out.below (HB1.out.trans (hb.mono hsz))).at_ k hkn
      obtain ⟨r, hr⟩ : ∃ r : Nat, L / 2 ^ k % 2 = r := ⟨_, rfl⟩
      have hr2 : r = 0 ∨ r = 1 := by omega
      obtain ⟨y, hy⟩ : ∃ y, ps.getD k 0 = y := ⟨_, rfl⟩
      have hs : climbF L x ps (k + 1) = if r = 0 then nodeF ((k : Int) + 1) (climbF L x ps k) y else nodeF ((k : Int) + 1) y (climbF L x ps k) := by rw [← hr, ← hy]; rfl
      rw [hr] at ha3
      rw [hy] at hc
      have HSt := Lib.hid hs
      have hwk : IntKind.u64.wrap (k : Int) = (k : Int) := by rw [IntKind.wrap_u64]; omega
      have hmk : min k 64 = k := by omega
      generalize climbF L x ps k = z at *
      clear hs hr hy hb
      rcases hr2 with rfl | rfl
      · go_wp2_with fail
        refine (nodeR_any ((k : Int) + 1) z y _).mono ?_
        rintro e w2 ⟨rfl, hb1⟩
        have HB2 := Lib.hid (HBr.out.trans (hb1.mono hszr))
        clear hb1 hc
        go_wp2
        go_roundw
        case rel => exact ⟨k + 1, by go_num, by omega, by rw [HSt.out]; simp, HB2.out⟩
        case measure => (simp [intOf] <;> omega)
      · go_wp2_with fail
        refine (nodeR_any ((k : Int) + 1) y z _).mono ?_
        rintro e w2 ⟨rfl, hb1⟩
        have HB2 := Lib.hid (HBr.out.trans (hb1.mono hszr))
        clear hb1 hc
        go_wp2
        go_roundw
        case rel => exact ⟨k + 1, by go_num, by omega, by rw [HSt.out]; simp, HB2.out⟩
        case measure => (simp [intOf] <;> omega)
    · have hk' : k = h := by omega
      subst hk'
      obtain ⟨y, hy⟩ : ∃ y, climbF L x ps k = y := ⟨_, rfl⟩
      rw [hy]
      have HY := Lib.hid hy
      clear hy hb
      have HBf := Lib.hid (HB1.out.trans (HBr.out.mono hsz))
      by_cases hyr : y = root
      · subst hyr
        go_wp2
        go_ret
        exact ⟨by rw [HX.out, HY.out]; simp [cmpE], HBf.out⟩
      · have hne : val y ≠ val root := fun e => hyr (val_inj e)
        go_wp2
        go_ret
        exact ⟨by rw [HX.out, HY.out]; simp [cmpE, hyr], HBf.out⟩
theorem verifyR_any (h : Int) (root m : BitVec 64) (l : Int) (A B : Option Addr) (n c n2 c2 : Nat) (cs ps : List (BitVec 64)) (w : World) (hA : Ws w A n cs) (hB : Ws w B n2 ps) :
    Calls Try.prog 18 #[.agg #[.int .i64 h, .int .u64 (val root)], .int .u64 (val m), .agg #[.int .i64 l, .slice A n c, .slice B n2 c2]] w fun e w' => e = .returned (.int .i64 (verE h root m l cs ps)) ∧ Below w.heap.size w w' := by
  unfold verE
  cases hg : hgtB h with
  | false =>
    have e : leafB h l = false := by unfold leafB; rw [hg]; rfl
    simpa [e] using verR_hgt h root m l A B n c n2 c2 hg w
  | true =>
    obtain ⟨H, rfl⟩ : ∃ H : Nat, h = (H : Int) := ⟨h.toNat, by rcases hgt_cases hg with e | e | e | e | e <;> omega⟩
    by_cases hl0 : 0 ≤ l
    · obtain ⟨L, rfl⟩ := Int.eq_ofNat_of_zero_le hl0
      by_cases hL : L < 2 ^ H
      · have e : leafB (H : Int) (L : Int) = true := by
          unfold leafB
          rw [hg]
          simp only [Int.toNat_natCast, Bool.and_eq_true, decide_eq_true_eq]
          exact ⟨⟨trivial, by omega⟩, by exact_mod_cast hL⟩
        have hl1 := hA.len
        have hl2 := hB.len
        simp only [Int.toNat_natCast, hl1, hl2, e]
        by_cases e1 : n = 18
        · subst e1
          by_cases e2 : n2 = H
          · subst e2
            simpa using verR_go n2 L _ root m A B c c2 cs ps hg rfl hL w hA hB
          · simpa [e2] using verR_path H L _ root m A B c n2 c2 hg rfl hL e2 w
        · have := verR_chains H L _ root m A B n c n2 c2 hg rfl hL e1 w
          by_cases e2 : n2 = H <;> simpa [e1, e2] using this
      · have e : leafB (H : Int) (L : Int) = false := by
          unfold leafB
          simp only [Int.toNat_natCast, Bool.and_eq_false_iff, decide_eq_false_iff_not]
          right
          intro h2
          exact hL (by exact_mod_cast h2)
        simpa [e] using verR_big H L _ root m A B n c n2 c2 hg rfl (by omega) w
    · have e : leafB (H : Int) l = false := by
        unfold leafB
        simp only [Bool.and_eq_false_iff, decide_eq_false_iff_not]
        left; right; exact hl0
      simpa [e] using verR_neg H root m l A B n c n2 c2 hg (by omega) w
end Go.Proofs.Ythgahjihgoiklaa
