/- A reader over any bytes: the item as one contract. -/
import Derived.Test.YtepinmeidjlmmaaDoorH6
namespace Go.Proofs.YtepinmeidjlmmaaDoor
open Go.RowKit
set_option maxRecDepth 100000

/-- the item at a behind its head: error, item, the place behind it -/
def bodyE (zs : List Int) (N c : Nat) (s : List Lv) (a : Nat) (h : Int × Int × Int × Nat) : Int × It × Nat :=
  if h.2.2.1 ≠ 0 then (h.2.2.1, noIt, a)
  else if placeE c s h.1 ≠ 0 then (placeE c s h.1, noIt, a)
  else if tooLargeB h.1 h.2.1 = true then (8, noIt, a)
  else if hasDataB h.1 = true then
    (if (N : Int) < h.2.2.2 + h.2.1 then (1, noIt, a)
     else if contentE s h.1 0 (strOfNums ((zs.drop h.2.2.2).take h.2.1.toNat)) ≠ 0 then (contentE s h.1 0 (strOfNums ((zs.drop h.2.2.2).take h.2.1.toNat)), noIt, a)
     else (0, ⟨h.1, 0, strOfNums ((zs.drop h.2.2.2).take h.2.1.toNat)⟩, h.2.2.2 + h.2.1.toNat))
  else if contentE s h.1 h.2.1 ⟨#[]⟩ ≠ 0 then (contentE s h.1 h.2.1 ⟨#[]⟩, noIt, a)
  else (0, ⟨h.1, h.2.1, ⟨#[]⟩⟩, h.2.2.2)
def itemE (zs : List Int) (N c : Nat) (s : List Lv) (a : Nat) : Int × It × Nat := bodyE zs N c s a (headE zs N a)

theorem data_le {k n : Int} (h : tooLargeB k n = false) (hd : hasDataB k = true) : n ≤ 1024 := by
  unfold tooLargeB at h
  simp [hd] at h
  exact h.1

theorem itm_any (p base c : Nat) (s : List Lv) (A : Option Addr) (N cap a : Nat) (zs : List Int) (w : World) (h : RdS w p base c s A N cap a zs) :
    Calls Tryd.prog 44 #[.pointer (some ⟨p, 0, none⟩)] w (ItemP p base c s A N cap zs (itemE zs N c s a) w) := by
  unfold itemE
  obtain ⟨k, n, er, a2, hh⟩ : ∃ k n er a2, headE zs N a = (k, n, er, a2) := ⟨_, _, _, _, rfl⟩
  rw [hh]
  unfold bodyE
  dsimp only
  by_cases he : er = 0
  · subst he
    rw [if_neg (by simp)]
    obtain ⟨k1, k8, n0, n64, h7, _, hlt, hle⟩ := head_ok h.by_.1.rng h.by_.1.len hh
    by_cases hp : placeE c s k = 0
    · rw [if_neg (by simp [hp])]
      by_cases hL : tooLargeB k n = true
      · rw [if_pos hL]
        exact itm_large p base c s A N cap a a2 zs k n w h hh hp hL
      rw [if_neg hL]
      have hL' : tooLargeB k n = false := by simpa using hL
      by_cases hD : hasDataB k = true
      · rw [if_pos hD]
        by_cases hs : (N : Int) < a2 + n
        · rw [if_pos hs]
          exact itm_short p base c s A N cap a a2 zs k n w h hh hp hL' hD hs n64
        rw [if_neg hs]
        have hn1 := data_le hL' hD
        obtain ⟨nn, rfl⟩ := Int.eq_ofNat_of_zero_le n0
        rw [Int.toNat_natCast]
        by_cases hE : contentE s k 0 (strOfNums ((zs.drop a2).take nn)) = 0
        · rw [if_neg (by simp [hE])]
          exact itm_data_ok p base c s A N cap a a2 nn zs k nn w h hh hp hL' hD (by omega) rfl (by omega) k1 k8 n0 (fun _ => by omega) hE
        · rw [if_pos hE]
          exact itm_data_err p base c s A N cap a a2 nn zs k nn _ w h hh hp hL' hD (by omega) rfl (by omega) k1 k8 n0 (fun _ => by omega) rfl hE
      rw [if_neg hD]
      have hD' : hasDataB k = false := by simpa using hD
      by_cases hE : contentE s k n ⟨#[]⟩ = 0
      · rw [if_neg (by simp [hE])]
        exact itm_plain_ok p base c s A N cap a a2 zs k n w h hh hp hL' hD' k1 k8 n0 h7 hE
      · rw [if_pos hE]
        exact itm_plain_err p base c s A N cap a a2 zs k n _ w h hh hp hL' hD' k1 k8 n0 h7 rfl hE
    · rw [if_pos hp]
      exact itm_place p base c s A N cap a a2 zs k n _ w h hh rfl hp
  · rw [if_pos he]
    exact itm_head p base c s A N cap a a2 zs k n er w h hh he

theorem shape_head {k n : Int} (h8 : k = 8 → n = 0) (h7 : k = 7 → n ≤ 1) (hD : hasDataB k = false) : shapeB k n ⟨#[]⟩ = true := by
  unfold hasDataB at hD
  simp at hD
  rw [shape_sw (by rintro ⟨h, _⟩; rw [Lib.toList_data] at h; cases h)]
  by_cases e8 : k = 8
  · rw [if_pos (by omega), h8 e8]; rfl
  · rw [if_neg (by omega)]
    by_cases e7 : k = 7
    · rw [if_pos e7]; simpa using h7 e7
    · rw [if_neg e7]
theorem shape_data {k : Int} (d : ByteArray) (hD : hasDataB k = true) : shapeB k 0 d = true := by
  have h34 : k = 3 ∨ k = 4 := by unfold hasDataB at hD; simpa using hD
  rw [shape_sw (by rintro ⟨_, h⟩; rw [hD] at h; cases h), if_pos (by omega)]
  rfl

/-- an item that is read is one that 'check' lets pass -/
theorem item_ok {zs : List Int} {N c : Nat} {s : List Lv} {a : Nat} (hr : ∀ z ∈ zs, 0 ≤ z ∧ z ≤ 255) (hl : zs.length = N) (hc : compB c s = false) {x : It} {a3 : Nat} (h : itemE zs N c s a = (0, x, a3)) :
    checkE c s x.k x.n x.d = 0 ∧ 0 ≤ x.n ∧ a < a3 ∧ a3 ≤ N := by
  unfold itemE at h
  obtain ⟨k, n, er, a2, hh⟩ : ∃ k n er a2, headE zs N a = (k, n, er, a2) := ⟨_, _, _, _, rfl⟩
  rw [hh] at h
  unfold bodyE at h
  dsimp only at h
  by_cases he : er = 0
  · subst he
    rw [if_neg (by simp)] at h
    obtain ⟨k1, k8, n0, n64, h7, h8, hlt, hle⟩ := head_ok hr hl hh
    by_cases hp : placeE c s k = 0
    · rw [if_neg (by simp [hp])] at h
      by_cases hL : tooLargeB k n = true
      · rw [if_pos hL] at h; simp at h
      rw [if_neg hL] at h
      have hL' : tooLargeB k n = false := by simpa using hL
      by_cases hD : hasDataB k = true
      · rw [if_pos hD] at h
        by_cases hs : (N : Int) < a2 + n
        · rw [if_pos hs] at h; simp at h
        rw [if_neg hs] at h
        have hn1 := data_le hL' hD
        obtain ⟨nn, rfl⟩ := Int.eq_ofNat_of_zero_le n0
        rw [Int.toNat_natCast] at h
        by_cases hE : contentE s k 0 (strOfNums ((zs.drop a2).take nn)) = 0
        · rw [if_neg (by simp [hE])] at h
          simp only [Prod.mk.injEq, true_and] at h
          obtain ⟨rfl, rfl⟩ := h
          have harg : argN k 0 (strOfNums ((zs.drop a2).take nn)) = nn := by
            unfold argN; rw [if_pos hD, strOfNums_size]; simp; omega
          refine ⟨?_, Int.le_refl _, by omega, by omega⟩
          rw [checkC hc hp (shape_data _ hD) (by rw [harg]; exact hL')]
          exact hE
        · rw [if_pos hE] at h
          simp only [Prod.mk.injEq] at h
          exact absurd h.1 hE
      · rw [if_neg hD] at h
        have hD' : hasDataB k = false := by simpa using hD
        by_cases hE : contentE s k n ⟨#[]⟩ = 0
        · rw [if_neg (by simp [hE])] at h
          simp only [Prod.mk.injEq, true_and] at h
          obtain ⟨rfl, rfl⟩ := h
          have harg : argN k n ⟨#[]⟩ = n := by unfold argN; rw [if_neg hD]
          refine ⟨?_, n0, hlt, hle⟩
          rw [checkC hc hp (shape_head h8 h7 hD') (by rw [harg]; exact hL')]
          exact hE
        · rw [if_pos hE] at h
          simp only [Prod.mk.injEq] at h
          exact absurd h.1 hE
    · rw [if_pos hp] at h
      simp only [Prod.mk.injEq] at h
      exact absurd h.1 hp
  · rw [if_pos he] at h
    simp only [Prod.mk.injEq] at h
    exact absurd h.1 he
end Go.Proofs.YtepinmeidjlmmaaDoor
