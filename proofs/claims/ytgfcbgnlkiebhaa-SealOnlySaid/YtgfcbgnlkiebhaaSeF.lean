/- Seal and Open of the reference for any arguments: one answer each, that the program's contracts are to give too. -/
import Derived.Test.YtgfcbgnlkiebhaaSeE
namespace Go.Proofs.Ytgfcbgnlkiebhaa
open Go.RowKit
set_option maxRecDepth 100000

/-- what Seal answers -/
def sealE (bs ts : List Int) : Int := if ts.length ≤ 1024 ∧ bs.length ≤ 1024 then 0 else 8
def sealL (x y : BitVec 64) (bs ts : List Int) : List Int := if ts.length ≤ 1024 ∧ bs.length ≤ 1024 then boxB x y bs ts else []
/-- what Open answers -/
def openE (x : BitVec 64) (bs zs : List Int) : Int := if zs.length < 16 then 1 else if 1040 < zs.length ∨ 1024 < bs.length then 8 else if tagL zs = tagW x (nonW zs) bs (hidL zs) then 0 else 14
def openT (x : BitVec 64) (bs zs : List Int) : List Int := if openE x bs zs = 0 then openL x zs else []
def GivesB (l : List Int) (E : Int) (w : World) (e : Ending) (w' : World) : Prop := ∃ A n c, e = .returned (.tuple #[.slice A n c, .int .i64 E]) ∧ Bytes w' A n l ∧ n ≤ c ∧ c ≤ 9223372036854775807 ∧ Below w.heap.size w w'
theorem gives_none {E : Int} {w w' : World} {e : Ending} (h : e = .returned (.tuple #[.slice none 0 0, .int .i64 E]) ∧ Below w.heap.size w w') : GivesB [] E w e w' :=
  ⟨none, 0, 0, h.1, ⟨rfl, fun z hz => by (cases hz), fun i hi => absurd hi (by omega)⟩, Nat.le_refl _, by omega, h.2⟩
theorem gives_row {E : Int} {n : Nat} {l : List Int} {w w' : World} {e : Ending} (hr : ∀ z ∈ l, 0 ≤ z ∧ z ≤ 255) (h : ∃ v, e = .returned (.tuple #[v, .int .i64 E]) ∧ Row w' w.heap.size v n l ∧ Below w.heap.size w w') : GivesB l E w e w' := by
  obtain ⟨v, he, hrow, hb⟩ := h
  obtain ⟨A, c, rfl, hc, hm, hy⟩ := hrow.bytes hr
  exact ⟨A, n, c, he, hy, hc, hm, hb⟩
theorem mixL_rng {zs ss : List Int} {k : Nat} (h : ∀ z ∈ zs, 0 ≤ z ∧ z ≤ 255) (h2 : ∀ z ∈ ss, 0 ≤ z ∧ z ≤ 255) : ∀ z ∈ mixL zs ss k, 0 ≤ z ∧ z ≤ 255 := by
  intro z hz
  obtain ⟨i, _, rfl⟩ := List.mem_map.1 hz
  exact xorB_rng (at_rng h i) (at_rng h2 i)
theorem box_rng {x y : BitVec 64} {bs ts : List Int} (h : ∀ z ∈ ts, 0 ≤ z ∧ z ≤ 255) : ∀ z ∈ boxB x y bs ts, 0 ≤ z ∧ z ≤ 255 := by
  intro z hz
  unfold boxB at hz
  rcases List.mem_append.1 hz with h1 | h1
  · rcases List.mem_append.1 h1 with h2 | h2
    · exact wsBytes_rng _ z h2
    · exact mixL_rng h (strN_rng x y _) z h2
  · exact wsBytes_rng _ z h1
theorem open_rng {x : BitVec 64} {zs : List Int} (h : ∀ z ∈ zs, 0 ≤ z ∧ z ≤ 255) : ∀ z ∈ openL x zs, 0 ≤ z ∧ z ≤ 255 :=
  mixL_rng (fun z hz => h z (List.mem_of_mem_drop (List.mem_of_mem_take hz))) (strN_rng _ _ _)
theorem sealR_all (x y : BitVec 64) (A B : Option Addr) (n c m d : Nat) (bs ts : List Int) (w : World) (hA : Bytes w A n bs) (hB : Bytes w B m ts) :
    Calls Try.prog 14 #[.int .u64 (val x), .int .u64 (val y), .slice A n c, .slice B m d] w (GivesB (sealL x y bs ts) (sealE bs ts) w) := by
  have h1 := hA.len
  have h2 := hB.len
  by_cases h : ts.length ≤ 1024 ∧ bs.length ≤ 1024
  · unfold sealL sealE
    rw [if_pos h, if_pos h]
    exact (sealR_ok x y A B n c m d bs ts w hA hB (by omega) (by omega)).mono fun e w' h => gives_row (box_rng hB.rng) h
  · unfold sealL sealE
    rw [if_neg h, if_neg h]
    refine (sealR_big x y A B n c m d w (by omega)).mono ?_
    rintro e w' ⟨he, rfl⟩
    exact gives_none ⟨he, Below.refl _ _⟩
theorem openR_all (x : BitVec 64) (A B : Option Addr) (n c m d : Nat) (bs zs : List Int) (w : World) (hA : Bytes w A n bs) (hB : Bytes w B m zs) (hd : m ≤ d) :
    Calls Try.prog 18 #[.int .u64 (val x), .slice A n c, .slice B m d] w (GivesB (openT x bs zs) (openE x bs zs) w) := by
  have h1 := hA.len
  have h2 := hB.len
  by_cases h16 : m < 16
  · have eE : openE x bs zs = 1 := by unfold openE; rw [if_pos (by omega)]
    have eT : openT x bs zs = [] := by unfold openT; rw [eE]; rfl
    rw [eE, eT]
    refine (openR_trunc x A B n c m d w h16).mono ?_
    rintro e w' ⟨he, rfl⟩
    exact gives_none ⟨he, Below.refl _ _⟩
  · by_cases hbig : 1040 < m ∨ 1024 < n
    · have eE : openE x bs zs = 8 := by unfold openE; rw [if_neg (by omega), if_pos (by omega)]
      have eT : openT x bs zs = [] := by unfold openT; rw [eE]; rfl
      rw [eE, eT]
      refine (openR_big x A B n c m d w (by omega) hbig).mono ?_
      rintro e w' ⟨he, rfl⟩
      exact gives_none ⟨he, Below.refl _ _⟩
    · obtain ⟨M, rfl⟩ : ∃ M, m = M + 16 := ⟨m - 16, by omega⟩
      obtain ⟨a, rfl, _⟩ := hB.at_ 0 (by omega)
      by_cases ht : tagL zs = tagW x (nonW zs) bs (hidL zs)
      · have eE : openE x bs zs = 0 := by unfold openE; rw [if_neg (by omega), if_neg (by omega), if_pos ht]
        have eT : openT x bs zs = openL x zs := by unfold openT; rw [if_pos eE]
        rw [eE, eT]
        exact (openR_ok x A a n c M d bs zs w hA hB (by omega) (by omega) hd ht).mono fun e w' h => gives_row (open_rng hB.rng) h
      · have eE : openE x bs zs = 14 := by unfold openE; rw [if_neg (by omega), if_neg (by omega), if_neg ht]
        have eT : openT x bs zs = [] := by unfold openT; rw [eE]; rfl
        rw [eE, eT]
        exact (openR_tag x A a n c M d bs zs w hA hB (by omega) (by omega) hd ht).mono fun e w' h => gives_none h
end Go.Proofs.Ytgfcbgnlkiebhaa
