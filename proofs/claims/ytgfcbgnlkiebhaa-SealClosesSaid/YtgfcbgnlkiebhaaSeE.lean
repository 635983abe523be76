/- Plain: what is sealed is opened; what is opened is the box of its text. -/
import Derived.Test.YtgfcbgnlkiebhaaSeD
namespace Go.Proofs.Ytgfcbgnlkiebhaa
open Go.RowKit
set_option maxRecDepth 100000

theorem one_word (y : BitVec 64) : wsBytes [y] = wbs y 8 := by simp [wsBytes]
theorem strN_len (x y : BitVec 64) (n : Nat) : (strN x y n).length = n := by unfold strN; rw [List.length_take, strB_len]; omega
theorem strN_rng (x y : BitVec 64) (n : Nat) : ∀ z ∈ strN x y n, 0 ≤ z ∧ z ≤ 255 := fun z hz => strB_rng x y _ z (List.mem_of_mem_take hz)
theorem at_rng {zs : List Int} (h : ∀ z ∈ zs, 0 ≤ z ∧ z ≤ 255) (i : Nat) : 0 ≤ zs.getD i 0 ∧ zs.getD i 0 ≤ 255 := by
  by_cases hi : i < zs.length
  · rw [show zs.getD i 0 = zs[i] by simp [List.getD, List.getElem?_eq_getElem hi]]
    exact h _ (List.getElem_mem hi)
  · rw [show zs.getD i 0 = 0 by simp [List.getD, List.getElem?_eq_none (Nat.le_of_not_lt hi)]]
    decide
theorem mixL_at (zs ss : List Int) (k i : Nat) (hi : i < k) : (mixL zs ss k).getD i 0 = xorB (zs.getD i 0) (ss.getD i 0) := by
  simp [mixL, List.getD, hi]
theorem mix_back (zs ss : List Int) (h : ∀ z ∈ zs, 0 ≤ z ∧ z ≤ 255) : mixL (mixL zs ss zs.length) ss zs.length = zs := by
  apply List.ext_getElem (by simp [mixL])
  intro i h1 h2
  have hi : i < zs.length := h2
  have e : (mixL (mixL zs ss zs.length) ss zs.length)[i] = xorB ((mixL zs ss zs.length).getD i 0) (ss.getD i 0) := by simp [mixL]
  rw [e, mixL_at _ _ _ _ hi, xorB_back (at_rng h i).1]
  simp [List.getD, List.getElem?_eq_getElem hi]
theorem box_len (x y : BitVec 64) (bs ts : List Int) : (boxB x y bs ts).length = ts.length + 16 := by
  unfold boxB
  simp [wsBytes_len, mixL_len]
  omega
theorem box_non (x y : BitVec 64) (bs ts : List Int) : nonW (boxB x y bs ts) = y := by
  unfold nonW boxB
  obtain ⟨p, hp⟩ : ∃ p, wbs y 8 = p := ⟨_, rfl⟩
  have hl : p.length = 8 := by rw [← hp]; simp [wbs]
  rw [one_word y, hp, List.append_assoc, List.take_left' hl, ← hp]
  exact rdG_back y
theorem box_hid (x y : BitVec 64) (bs ts : List Int) : hidL (boxB x y bs ts) = mixL ts (strN x y ts.length) ts.length := by
  unfold hidL
  rw [box_len, show ts.length + 16 - 16 = ts.length by omega]
  unfold boxB
  obtain ⟨p, hp⟩ : ∃ p, wbs y 8 = p := ⟨_, rfl⟩
  have hl : p.length = 8 := by rw [← hp]; simp [wbs]
  rw [one_word y, hp, List.append_assoc, List.drop_left' hl]
  have hm := mixL_len ts (strN x y ts.length) ts.length
  generalize mixL ts (strN x y ts.length) ts.length = hs at *
  rw [← hm, List.take_left]
theorem box_tag (x y : BitVec 64) (bs ts : List Int) : tagL (boxB x y bs ts) = tagW x y bs (mixL ts (strN x y ts.length) ts.length) := by
  unfold tagL
  rw [box_len, show ts.length + 16 - 8 = ts.length + 8 by omega]
  unfold boxB
  have hm := mixL_len ts (strN x y ts.length) ts.length
  generalize mixL ts (strN x y ts.length) ts.length = hs at *
  have hl : (wsBytes [y] ++ hs).length = ts.length + 8 := by simp [wsBytes_len, hm]; omega
  rw [← hl, List.drop_left, one_word]
  exact rdG_back _
theorem box_open (x y : BitVec 64) (bs ts : List Int) (h : ∀ z ∈ ts, 0 ≤ z ∧ z ≤ 255) : openL x (boxB x y bs ts) = ts := by
  unfold openL
  rw [box_hid, box_non, box_len, show ts.length + 16 - 16 = ts.length by omega]
  exact mix_back ts _ h
theorem box_right (x y : BitVec 64) (bs ts : List Int) : tagL (boxB x y bs ts) = tagW x (nonW (boxB x y bs ts)) bs (hidL (boxB x y bs ts)) := by rw [box_tag, box_non, box_hid]
/-- bytes written from the word that they are -/
theorem rdG_lt {l : List Int} (h : ∀ z ∈ l, 0 ≤ z ∧ z ≤ 255) : ∀ k, k ≤ 8 → (rdG l k).toNat < 256 ^ k
  | 0, _ => by simp [rdG]
  | k + 1, hk => by
    have ih := rdG_lt h k (by omega)
    have hz := at_rng h k
    have h56 : (rdG l k).toNat < 2 ^ 56 := Nat.lt_of_lt_of_le ih (by
      have : (256 : Nat) ^ k ≤ 256 ^ 7 := Nat.pow_le_pow_right (by decide) (by omega)
      exact Nat.le_trans this (by decide))
    have hb : (BitVec.ofInt 64 (l.getD k 0)).toNat = (l.getD k 0).toNat := by
      obtain ⟨b, hb⟩ := Int.eq_ofNat_of_zero_le hz.1
      rw [hb, BitVec.ofInt_natCast, BitVec.toNat_ofNat]
      omega
    unfold rdG
    rw [or_toNatG _ _ h56 (by rw [hb]; omega), hb, Nat.pow_succ]
    omega
theorem rdG_next {l : List Int} (h : ∀ z ∈ l, 0 ≤ z ∧ z ≤ 255) (k : Nat) (hk : k < 8) : (rdG l (k + 1)).toNat = 256 * (rdG l k).toNat + (l.getD k 0).toNat := by
  have ih := rdG_lt h k (by omega)
  have hz := at_rng h k
  have h56 : (rdG l k).toNat < 2 ^ 56 := Nat.lt_of_lt_of_le ih (by
    have : (256 : Nat) ^ k ≤ 256 ^ 7 := Nat.pow_le_pow_right (by decide) (by omega)
    exact Nat.le_trans this (by decide))
  have hb : (BitVec.ofInt 64 (l.getD k 0)).toNat = (l.getD k 0).toNat := by
    obtain ⟨b, hb⟩ := Int.eq_ofNat_of_zero_le hz.1
    rw [hb, BitVec.ofInt_natCast, BitVec.toNat_ofNat]
    omega
  show (rdG l k <<< 8 ||| BitVec.ofInt 64 (l.getD k 0)).toNat = _
  rw [or_toNatG _ _ h56 (by rw [hb]; omega), hb]
theorem rdG_div {l : List Int} (h : ∀ z ∈ l, 0 ≤ z ∧ z ≤ 255) : ∀ j, j ≤ 8 → (rdG l 8).toNat / 256 ^ j = (rdG l (8 - j)).toNat
  | 0, _ => by simp
  | j + 1, hj => by
    have ih := rdG_div h j (by omega)
    have hn := rdG_next h (8 - (j + 1)) (by omega)
    have hz := at_rng h (8 - (j + 1))
    rw [show 8 - (j + 1) + 1 = 8 - j by omega] at hn
    rw [Nat.pow_succ, ← Nat.div_div_eq_div_mul, ih, hn]
    omega
theorem rdG_fwd {l : List Int} (hl : l.length = 8) (h : ∀ z ∈ l, 0 ≤ z ∧ z ≤ 255) : wbs (rdG l 8) 8 = l := by
  apply List.ext_getElem (by simp [wbs, hl])
  intro i h1 h2
  have hi : i < 8 := by omega
  have e : (wbs (rdG l 8) 8)[i] = wb (rdG l 8) i := by simp [wbs]
  refine e.trans ?_
  rw [wb_natG _ _ hi]
  have hp : (2 : Nat) ^ (56 - 8 * i) = 256 ^ (7 - i) := by
    rw [show (256 : Nat) = 2 ^ 8 by rfl, ← Nat.pow_mul]
    congr 1
    omega
  rw [hp, rdG_div h (7 - i) (by omega), show 8 - (7 - i) = i + 1 by omega, rdG_next h i hi]
  have hz := at_rng h i
  have e2 : l.getD i 0 = l[i] := by simp [List.getD, List.getElem?_eq_getElem h2]
  rw [← e2]
  omega
/-- what is opened is the box of its text -/
theorem box_only {x : BitVec 64} {bs zs : List Int} (h : ∀ z ∈ zs, 0 ≤ z ∧ z ≤ 255) (h16 : 16 ≤ zs.length) (ht : tagL zs = tagW x (nonW zs) bs (hidL zs)) : boxB x (nonW zs) bs (openL x zs) = zs := by
  have hhl : (hidL zs).length = zs.length - 16 := by unfold hidL; simp; omega
  have hol : (openL x zs).length = zs.length - 16 := by unfold openL; exact mixL_len _ _ _
  have hhr : ∀ z ∈ hidL zs, 0 ≤ z ∧ z ≤ 255 := fun z hz => h z (List.mem_of_mem_drop (List.mem_of_mem_take hz))
  have hb : mixL (openL x zs) (strN x (nonW zs) (zs.length - 16)) (zs.length - 16) = hidL zs := by
    unfold openL
    have := mix_back (hidL zs) (strN x (nonW zs) (zs.length - 16)) hhr
    rw [hhl] at this
    exact this
  unfold boxB
  rw [hol, hb, ← ht, one_word, one_word]
  have h1 : wbs (nonW zs) 8 = zs.take 8 := rdG_fwd (by simp; omega) fun z hz => h z (List.mem_of_mem_take hz)
  have h2 : wbs (tagL zs) 8 = zs.drop (zs.length - 8) := rdG_fwd (by simp; omega) fun z hz => h z (List.mem_of_mem_drop hz)
  rw [h1, h2]
  unfold hidL
  have e1 : zs.drop (zs.length - 8) = (zs.drop 8).drop (zs.length - 16) := by rw [List.drop_drop]; congr 1; omega
  rw [e1, List.append_assoc, List.take_append_drop, List.take_append_drop]
end Go.Proofs.Ytgfcbgnlkiebhaa
