import Derived.Test.YtepinmeidjlmmaaDoorF2
namespace Go.Proofs.YtepinmeidjlmmaaDoor
open Go.RowKit

theorem compare_less : ∀ (a b : List UInt8), a.length = b.length → (0 ≤ Lib.compareBytes a b ↔ Op.bytesLess a b = false)
  | [], [], _ => by simp [Lib.compareBytes, Op.bytesLess]
  | [], _ :: _, h => by simp at h
  | _ :: _, [], h => by simp at h
  | x :: xs, y :: ys, h => by
    have ih := compare_less xs ys (by simpa using h)
    unfold Lib.compareBytes Op.bytesLess
    by_cases h1 : x < y
    · simp [h1]
    · by_cases h2 : y < x
      · have h3 : (x == y) = false := by
          apply beq_false_of_ne
          intro e
          subst e
          exact h1 h2
        rw [if_neg h1, if_pos h2]
        simp [h1, h3]
      · have h3 : x = y := by
          apply UInt8.toNat_inj.1
          have a1 := UInt8.not_lt.1 h1
          have a2 := UInt8.not_lt.1 h2
          have b1 := UInt8.le_iff_toNat_le.1 a1
          have b2 := UInt8.le_iff_toNat_le.1 a2
          omega
        subst h3
        rw [if_neg h1, if_neg h1, ih]
        simp [h1]

theorem bytesS_list (k n : Int) (d : ByteArray) : (bytesS k n d).toList = Lib.bytesOf (headR k n d) ++ d.data.toList := by
  rw [Lib.toList_data, bytesS, ByteArray.data_append, Array.toList_append, strOfNums_data]
  rfl
theorem bytesOf_data (d : ByteArray) : Lib.bytesOf (dataI d) = d.data.toList := by
  simp only [Lib.bytesOf, dataI, List.map_map]
  conv => rhs; rw [← List.map_id d.data.toList]
  apply List.map_congr_left
  intro x _
  simp
theorem bytesS_enc {k n : Int} {d : ByteArray} (hk : k ≤ 6) : (bytesS k n d).toList = Lib.bytesOf (encItem k n d) := by
  rw [bytesS_list, encItemP hk]
  have e : headR k n d = encHead (k - 1) (argN k n d) := by unfold headR; rw [if_neg (by omega), if_neg (by omega)]
  rw [e, Lib.bytesOf, Lib.bytesOf, List.map_append]
  congr 1
  exact (bytesOf_data d).symm
theorem bytesS_size {k n : Int} {d : ByteArray} (hk : k ≤ 6) : (bytesS k n d).size = (encItem k n d).length := by
  have h := congrArg List.length (bytesS_enc (n := n) (d := d) hk)
  rw [Lib.toList_data] at h
  simpa [Lib.bytesOf] using h

/-- the two orders of keys are one -/
theorem order_same {k1 n1 k2 n2 : Int} {d1 d2 : ByteArray} (h1 : k1 ≤ 6) (h2 : k2 ≤ 6) : (0 ≤ cmpEnc (encItem k1 n1 d1) (encItem k2 n2 d2)) ↔ lessB (bytesS k1 n1 d1) (bytesS k2 n2 d2) = false := by
  unfold cmpEnc lessB
  rw [bytesS_size h1, bytesS_size h2]
  by_cases he : (encItem k1 n1 d1).length = (encItem k2 n2 d2).length
  · rw [if_pos he, bytesS_enc h1, bytesS_enc h2]
    rw [orI_r (cmpI_eq (by omega) (by omega))]
    exact compare_less _ _ (by simpa [Lib.bytesOf] using he)
  · rw [if_neg he]
    by_cases hl : (encItem k1 n1 d1).length < (encItem k2 n2 d2).length
    · rw [cmpI_lt (by omega), orI_l (by omega)]
      simp [hl]
    · rw [cmpI_gt (by omega), orI_l (by omega)]
      simp [hl]

/-- what the stack's innermost level says of the key before -/
def KeyRel (s : List Lv) (bf : ByteArray) : Prop := atKeyB s = true → ∃ t r, s = t :: r ∧ t.lk ≤ 6 ∧ ((t.lk = 0 ∧ bf.toList.isEmpty = true) ∨ (t.lk ≠ 0 ∧ bf = bytesS t.lk t.ln t.ld))
theorem bytesS_ne (k n : Int) (d : ByteArray) : (bytesS k n d).toList.isEmpty = false := by
  rw [bytesS_list]
  have := headR_pos k n d
  cases h : headR k n d with
  | nil => rw [h] at this; simp at this
  | cons x r => simp [Lib.bytesOf]

theorem check_same {c : Nat} {s : List Lv} {bf : ByteArray} {k n : Int} {d : ByteArray} (hc : compB c s = false) (hr : KeyRel s bf) : checkE c s k n d = checkRE c s.length (atKeyB s) bf k n d := by
  unfold checkE checkRE placeE
  rw [if_neg (by simp [hc])]
  by_cases h1 : 512 ≤ c
  · simp [h1]
  rw [if_neg h1, if_neg h1]
  by_cases h2 : k < 1 ∨ 8 < k
  · simp [h2]
  rw [if_neg h2, if_neg h2]
  by_cases h3 : atKeyB s = true ∧ canKeyB k = false
  · simp [h3]
  rw [if_neg h3, if_neg h3]
  by_cases h4 : 8 < s.length
  · simp [h4]
  rw [if_neg h4, if_neg h4, if_neg (by simp)]
  by_cases h5 : shapeB k n d = false
  · rw [if_pos h5, if_pos h5]
  rw [if_neg h5, if_neg h5]
  by_cases h6 : tooLargeB k (argN k n d) = true
  · rw [if_pos h6, if_pos h6]
  rw [if_neg h6, if_neg h6]
  unfold contentE
  by_cases h7 : k = 4 ∧ Lib.validD d.data.toList = false
  · rw [if_pos h7, if_pos h7]
  rw [if_neg h7, if_neg h7]
  cases s with
  | nil => simp [atKeyB]
  | cons t r =>
    simp only
    by_cases ha : atKeyB (t :: r) = true
    · obtain ⟨t2, r2, e, hl6, h⟩ := hr ha
      cases e
      have hk6 : k ≤ 6 := by
        cases hck : canKeyB k with
        | false => exact absurd ⟨ha, hck⟩ h3
        | true => simp [canKeyB] at hck; omega
      rcases h with ⟨h0, hb⟩ | ⟨h0, rfl⟩
      · rw [if_neg (by simp [h0]), if_neg (by simp [hb])]
      · have ho := order_same (n1 := t.ln) (d1 := t.ld) (n2 := n) (d2 := d) hl6 hk6
        by_cases hlt : 0 ≤ cmpEnc (encItem t.lk t.ln t.ld) (encItem k n d)
        · rw [if_pos ⟨ha, h0, hlt⟩, if_pos ⟨ha, bytesS_ne _ _ _, ho.1 hlt⟩]
        · rw [if_neg (fun h => hlt h.2.2), if_neg (fun h => hlt (ho.2 h.2.2))]
    · rw [if_neg (fun h => ha h.1), if_neg (fun h => ha h.1)]

end Go.Proofs.YtepinmeidjlmmaaDoor
