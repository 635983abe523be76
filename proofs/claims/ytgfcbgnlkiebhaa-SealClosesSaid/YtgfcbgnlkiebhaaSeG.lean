/- The contracts of package seal. -/
import Derived.Test.YtgfcbgnlkiebhaaSpG
namespace Go.Proofs.Ytgfcbgnlkiebhaa
open Go.RowKit
set_option maxRecDepth 100000

/-- one slice of bytes is returned -/
def GivesS (l : List Int) (w : World) (e : Ending) (w' : World) : Prop := ∃ A n c, e = .returned (.slice A n c) ∧ Bytes w' A n l ∧ n ≤ c ∧ Below w.heap.size w w'
theorem streamR_all (x y : BitVec 64) (z : Int) (w : World) :
    Calls Try.prog 10 #[.int .u64 (val x), .int .u64 (val y), .int .i64 z] w (GivesS (strN x y (askN z)) w) := by
  refine (streamR_any x y z w).mono ?_
  rintro e w' ⟨A, c, rfl, hy, hc, hb⟩
  exact ⟨A, _, c, rfl, hy, hc, hb⟩
theorem streamE_all (x y : BitVec 64) (z : Int) (w : World) :
    Calls Try.prog 9 #[.int .u64 (val x), .int .u64 (val y), .int .i64 z] w (GivesS (strN x y (askN z)) w) := by
  refine (streamE_any x y z w).mono ?_
  rintro e w' ⟨v, rfl, hr, hb⟩
  obtain ⟨A, c, rfl, hc, _, hy⟩ := hr.bytes (strN_rng x y _)
  exact ⟨A, _, c, rfl, hy, hc, hb⟩
theorem sealE_all (x y : BitVec 64) (A B : Option Addr) (n c m d : Nat) (bs ts : List Int) (w : World) (hA : Bytes w A n bs) (hB : Bytes w B m ts) (_ : n ≤ c) (_ : c ≤ 9223372036854775807) (_ : m ≤ d) (_ : d ≤ 9223372036854775807) :
    Calls Try.prog 13 #[.int .u64 (val x), .int .u64 (val y), .slice A n c, .slice B m d] w (GivesB (sealL x y bs ts) (sealE bs ts) w) := by
  have h1 := hA.len
  have h2 := hB.len
  by_cases h : ts.length ≤ 1024 ∧ bs.length ≤ 1024
  · unfold sealL sealE
    rw [if_pos h, if_pos h]
    exact (sealE_ok x y A B n c m d bs ts w hA hB (by omega) (by omega)).mono fun e w' h => gives_row (box_rng hB.rng) h
  · unfold sealL sealE
    rw [if_neg h, if_neg h]
    refine (sealE_big x y A B n c m d w (by omega)).mono ?_
    rintro e w' ⟨he, rfl⟩
    exact gives_none ⟨he, Below.refl _ _⟩
theorem openE_all (x : BitVec 64) (A B : Option Addr) (n c m d : Nat) (bs zs : List Int) (w : World) (hA : Bytes w A n bs) (hB : Bytes w B m zs) (_ : n ≤ c) (_ : c ≤ 9223372036854775807) (hd : m ≤ d) (_ : d ≤ 9223372036854775807) :
    Calls Try.prog 16 #[.int .u64 (val x), .slice A n c, .slice B m d] w (GivesB (openT x bs zs) (openE x bs zs) w) := by
  have h1 := hA.len
  have h2 := hB.len
  by_cases h16 : m < 16
  · have eE : openE x bs zs = 1 := by unfold openE; rw [if_pos (by omega)]
    have eT : openT x bs zs = [] := by unfold openT; rw [eE]; rfl
    rw [eE, eT]
    refine (openE_trunc x A B n c m d w h16).mono ?_
    rintro e w' ⟨he, rfl⟩
    exact gives_none ⟨he, Below.refl _ _⟩
  · by_cases hbig : 1040 < m ∨ 1024 < n
    · have eE : openE x bs zs = 8 := by unfold openE; rw [if_neg (by omega), if_pos (by omega)]
      have eT : openT x bs zs = [] := by unfold openT; rw [eE]; rfl
      rw [eE, eT]
      refine (openE_big x A B n c m d w (by omega) hbig).mono ?_
      rintro e w' ⟨he, rfl⟩
      exact gives_none ⟨he, Below.refl _ _⟩
    · obtain ⟨M, rfl⟩ : ∃ M, m = M + 16 := ⟨m - 16, by omega⟩
      obtain ⟨a, rfl, _⟩ := hB.at_ 0 (by omega)
      by_cases ht : tagL zs = tagW x (nonW zs) bs (hidL zs)
      · have eE : openE x bs zs = 0 := by unfold openE; rw [if_neg (by omega), if_neg (by omega), if_pos ht]
        have eT : openT x bs zs = openL x zs := by unfold openT; rw [if_pos eE]
        rw [eE, eT]
        exact (openE_ok x A a n c M d bs zs w hA hB (by omega) (by omega) hd ht).mono fun e w' h => gives_row (open_rng hB.rng) h
      · have eE : openE x bs zs = 14 := by unfold openE; rw [if_neg (by omega), if_neg (by omega), if_neg ht]
        have eT : openT x bs zs = [] := by unfold openT; rw [eE]; rfl
        rw [eE, eT]
        exact (openE_tag x A a n c M d bs zs w hA hB (by omega) (by omega) hd ht).mono fun e w' h => gives_none h
end Go.Proofs.Ytgfcbgnlkiebhaa
