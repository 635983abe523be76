/- Sign of both as one answer; two equal signatures; the law TreekeySigns. -/
import Derived.Test.YthgahjihgoiklaaTkN
namespace Go.Proofs.Ythgahjihgoiklaa
open Go.RowKit
set_option maxRecDepth 100000

theorem signR_hgt (s m : BitVec 64) (h l : Int) (hh : hgtB h = false) (w : World) :
    Calls Try.prog 14 #[.int .u64 (val s), .int .i64 h, .int .i64 l, .int .u64 (val m)] w fun e w' => e = .returned (.tuple #[.agg #[.int .i64 0, .slice none 0 0, .slice none 0 0], .int .i64 9]) ∧ Below w.heap.size w w' := by
  have HH := Lib.hid hh
  clear hh
  go_enter Try.func14, Try.ntmps14
  go_wp2_with fail
  refine (hgtR_any h _).mono ?_
  rintro e w' ⟨rfl, rfl⟩
  rw [HH.out]
  go_wp2
  exact bodyPost_ret (v := .tuple #[.agg #[.int .i64 0, .slice none 0 0, .slice none 0 0], .int .i64 9]) (by simp [results, Try.results14, go_sem]) rfl ⟨rfl, (Below.refl _ _).alloc (Nat.le_refl _) _⟩
theorem signR_neg (s m : BitVec 64) (h l : Int) (hh : hgtB h = true) (hl : l < 0) (w : World) :
    Calls Try.prog 14 #[.int .u64 (val s), .int .i64 h, .int .i64 l, .int .u64 (val m)] w fun e w' => e = .returned (.tuple #[.agg #[.int .i64 0, .slice none 0 0, .slice none 0 0], .int .i64 9]) ∧ Below w.heap.size w w' := by
  have HH := Lib.hid hh
  clear hh
  go_enter Try.func14, Try.ntmps14
  go_wp2_with fail
  refine (hgtR_any h _).mono ?_
  rintro e w' ⟨rfl, rfl⟩
  rw [HH.out]
  go_wp2
  exact bodyPost_ret (v := .tuple #[.agg #[.int .i64 0, .slice none 0 0, .slice none 0 0], .int .i64 9]) (by simp [results, Try.results14, go_sem]) rfl ⟨rfl, (Below.refl _ _).alloc (Nat.le_refl _) _⟩
theorem signR_big (s m : BitVec 64) (h L N : Nat) (hh : hgtB (h : Int) = true) (hN : 2 ^ h = N) (hl : N ≤ L) (w : World) :
    Calls Try.prog 14 #[.int .u64 (val s), .int .i64 (h : Int), .int .i64 (L : Int), .int .u64 (val m)] w fun e w' => e = .returned (.tuple #[.agg #[.int .i64 0, .slice none 0 0, .slice none 0 0], .int .i64 9]) ∧ Below w.heap.size w w' := by
  have HH := Lib.hid hh
  have hh4 : h ≤ 4 := by rcases hgt_cases hh with e | e | e | e | e <;> omega
  have hwr := wrap_pow h hh4
  rw [hN] at hwr
  have hlI : (N : Int) ≤ (L : Int) := by omega
  clear hh hN
  go_enter Try.func14, Try.ntmps14
  go_wp2_with fail
  refine (hgtR_any _ _).mono ?_
  rintro e w' ⟨rfl, rfl⟩
  rw [HH.out]
  go_wp2
  exact bodyPost_ret (v := .tuple #[.agg #[.int .i64 0, .slice none 0 0, .slice none 0 0], .int .i64 9]) (by simp [results, Try.results14, go_sem]) rfl ⟨rfl, (Below.refl _ _).alloc (Nat.le_refl _) _⟩

def sL (h l : Int) : Int := if leafB h l = true then l else 0
def sE (h l : Int) : Int := if leafB h l = true then 0 else 9
def sN (h l : Int) : Nat := if leafB h l = true then 18 else 0
def sM (h l : Int) : Nat := if leafB h l = true then h.toNat else 0
def sC (s m : BitVec 64) (h l : Int) : List (BitVec 64) := if leafB h l = true then vals (sigF s l m) else []
def sP (s : BitVec 64) (h l : Int) : List (BitVec 64) := if leafB h l = true then pathF s l.toNat h.toNat else []
/-- what Sign answers -/
def SignP (s m : BitVec 64) (h l : Int) (w : World) (e : Ending) (w' : World) : Prop := ∃ A c B c2, e = .returned (.tuple #[.agg #[.int .i64 (sL h l), .slice A (sN h l) c, .slice B (sM h l) c2], .int .i64 (sE h l)]) ∧
  Ws w' A (sN h l) (sC s m h l) ∧ Ws w' B (sM h l) (sP s h l) ∧ Below w.heap.size w w'
theorem Ws.nil (w : World) (A : Option Addr) : Ws w A 0 [] := ⟨rfl, fun i hi => absurd hi (by omega)⟩
theorem signP_no {s m : BitVec 64} {h l : Int} (hh : leafB h l = false) {w : World} {e : Ending} {w' : World} (he : e = .returned (.tuple #[.agg #[.int .i64 0, .slice none 0 0, .slice none 0 0], .int .i64 9])) (hb : Below w.heap.size w w') : SignP s m h l w e w' := by
  unfold SignP sL sE sN sM sC sP
  simp only [hh, Bool.false_eq_true, if_false]
  exact ⟨none, 0, none, 0, he, Ws.nil _ _, Ws.nil _ _, hb⟩
theorem sign_all (s m : BitVec 64) (h l : Int) (w : World) : Calls Try.prog 13 #[.int .u64 (val s), .int .i64 h, .int .i64 l, .int .u64 (val m)] w (SignP s m h l w) := by
  cases hh : leafB h l with
  | false => exact (signS_no s m h l hh w).mono fun e w' ⟨he, hb⟩ => signP_no hh he hb
  | true =>
    obtain ⟨h1, h2, h3⟩ := leaf_lt hh
    obtain ⟨H, rfl⟩ : ∃ H : Nat, h = (H : Int) := ⟨h.toNat, by rcases hgt_cases h1 with e | e | e | e | e <;> omega⟩
    obtain ⟨L, rfl⟩ := Int.eq_ofNat_of_zero_le h2
    obtain ⟨k1, k2, _⟩ := leaf_small hh
    refine (signS_ok s m H L k1 k2 w).mono ?_
    rintro e w' ⟨A, c, B, c2, he, hA, hB, hb⟩
    unfold SignP sL sE sN sM sC sP
    simp only [hh, if_true, Int.toNat_natCast]
    exact ⟨A, c, B, c2, he, hA, hB, hb⟩
theorem signR_all (s m : BitVec 64) (h l : Int) (w : World) : Calls Try.prog 14 #[.int .u64 (val s), .int .i64 h, .int .i64 l, .int .u64 (val m)] w (SignP s m h l w) := by
  cases hg : hgtB h with
  | false =>
    have hh : leafB h l = false := by unfold leafB; rw [hg]; rfl
    exact (signR_hgt s m h l hg w).mono fun e w' ⟨he, hb⟩ => signP_no hh he hb
  | true =>
    obtain ⟨H, rfl⟩ : ∃ H : Nat, h = (H : Int) := ⟨h.toNat, by rcases hgt_cases hg with e | e | e | e | e <;> omega⟩
    by_cases hl0 : 0 ≤ l
    · obtain ⟨L, rfl⟩ := Int.eq_ofNat_of_zero_le hl0
      by_cases hL : L < 2 ^ H
      · have hh : leafB (H : Int) (L : Int) = true := by
          unfold leafB
          rw [hg]
          simp only [Int.toNat_natCast, Bool.and_eq_true, decide_eq_true_eq]
          exact ⟨⟨trivial, by omega⟩, by exact_mod_cast hL⟩
        obtain ⟨k1, k2, _⟩ := leaf_small hh
        refine (signRT_ok s m H L k1 k2 w).mono ?_
        rintro e w' ⟨A, c, B, c2, he, hA, hB, hb⟩
        unfold SignP sL sE sN sM sC sP
        simp only [hh, if_true, Int.toNat_natCast]
        exact ⟨A, c, B, c2, he, hA, hB, hb⟩
      · have hh : leafB (H : Int) (L : Int) = false := by
          unfold leafB
          simp only [Int.toNat_natCast, Bool.and_eq_false_iff, decide_eq_false_iff_not]
          right
          intro h2
          exact hL (by exact_mod_cast h2)
        exact (signR_big s m H L _ hg rfl (by omega) w).mono fun e w' ⟨he, hb⟩ => signP_no hh he hb
    · have hh : leafB (H : Int) l = false := by
        unfold leafB
        simp only [Bool.and_eq_false_iff, decide_eq_false_iff_not]
        left; right; exact hl0
      exact (signR_neg s m H l hg (by omega) w).mono fun e w' ⟨he, hb⟩ => signP_no hh he hb
set_option maxHeartbeats 1000000 in
theorem same_sig (l : Int) (A A' B B' : Option Addr) (n c c' n2 d d' : Nat) (cs ps : List (BitVec 64)) (w : World) (hA : Ws w A n cs) (hA' : Ws w A' n cs) (hB : Ws w B n2 ps) (hB' : Ws w B' n2 ps) (hn : n ≤ 1000000) (hn2 : n2 ≤ 1000000) :
    Calls Try.prog 15 #[.agg #[.int .i64 l, .slice A n c, .slice B n2 d], .agg #[.int .i64 l, .slice A' n c', .slice B' n2 d']] w fun e w' => e = .returned (.bool true) ∧ Below w.heap.size w w' := by
  have HA := Lib.hid hA
  have HA' := Lib.hid hA'
  have HB := Lib.hid hB
  have HB' := Lib.hid hB'
  clear hA hA' hB hB'
  go_enter Try.func15, Try.ntmps15
  go_wp2_with fail
  have hb0 := ((Below.refl w.heap.size w).alloc (Nat.le_refl _) (.cells #[.int .i64 l, .slice A n c, .slice B n2 d] 32)).alloc (by simp) (.cells #[.int .i64 l, .slice A' n c', .slice B' n2 d'] 32)
  have hk0 := (Cs.new w 32 [.int .i64 l, .slice A n c, .slice B n2 d]).below ((Below.refl _ _).alloc (Nat.le_refl _) (.cells #[.int .i64 l, .slice A' n c', .slice B' n2 d'] 32)) (by simp)
  have hs0 := Cs.new (w.alloc (.cells #[.int .i64 l, .slice A n c, .slice B n2 d] 32)) 32 [.int .i64 l, .slice A' n c', .slice B' n2 d']
  rw [World.size_alloc] at hs0
  refine (same_words A A' n c c' cs _ (HA.out.below hb0) (HA'.out.below hb0) hn).mono ?_
  rintro e w1 ⟨rfl, hb1⟩
  have hk1 := hk0.below hb1 (by simp; omega)
  have hs1 := hs0.below hb1 (by simp)
  have HB1 := Lib.hid (hb0.trans (hb1.mono (by simp; omega)))
  have k2 := hk1.cell 2
  have s2 := hs1.cell 2
  simp only [List.getElem?_cons_succ, List.getElem?_cons_zero] at k2 s2
  have hsz := HB1.out.size
  clear hk0 hs0 hb0 hb1 hk1 hs1
  go_wp2_with fail
  refine (same_words B B' n2 d d' ps _ (HB.out.below HB1.out) (HB'.out.below HB1.out) hn2).mono ?_
  rintro e w2 ⟨rfl, hb2⟩
  have HB2 := Lib.hid (HB1.out.trans (hb2.mono hsz))
  clear hb2
  go_wp2
  go_ret
  exact ⟨rfl, HB2.out⟩
end Go.Proofs.Ythgahjihgoiklaa
