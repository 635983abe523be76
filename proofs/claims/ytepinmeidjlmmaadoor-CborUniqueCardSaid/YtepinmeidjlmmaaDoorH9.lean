/- What is read is an encoding: plain. -/
import Derived.Test.YtepinmeidjlmmaaDoorH8
namespace Go.Proofs.YtepinmeidjlmmaaDoor
open Go.RowKit
set_option maxRecDepth 100000

theorem beTo_div {ys : List Int} {k : Nat} (hr : ∀ z ∈ ys, 0 ≤ z ∧ z ≤ 255) (h : k < ys.length) : beTo ys (k + 1) / 256 = beTo ys k ∧ beTo ys (k + 1) % 256 = ys.getD k 0 := by
  have hx : 0 ≤ ys.getD k 0 ∧ ys.getD k 0 ≤ 255 := by
    simp only [List.getD, List.getElem?_eq_getElem h, Option.getD_some]
    exact hr _ (List.getElem_mem _)
  rw [beTo_succ h]
  omega
theorem beTo_far {ys : List Int} (hr : ∀ z ∈ ys, 0 ≤ z ∧ z ≤ 255) (i : Nat) : ∀ t, i + t ≤ ys.length → beTo ys (i + t) / 256 ^ t = beTo ys i
  | 0, _ => by simp
  | t + 1, h => by
    have ih := beTo_far hr i t (by omega)
    have hd := (beTo_div (k := i + t) hr (by omega)).1
    have e : (256 : Int) ^ (t + 1) = 256 * 256 ^ t := by rw [Int.pow_succ, Int.mul_comm]
    rw [show i + (t + 1) = (i + t) + 1 by omega, e, ← Int.ediv_ediv_of_nonneg (by decide), hd, ih]
theorem beBytes_back {ys : List Int} {s : Nat} (hr : ∀ z ∈ ys, 0 ≤ z ∧ z ≤ 255) (hl : ys.length = s) : beBytes (beTo ys s) s s = ys := by
  apply List.ext_getElem?
  intro i
  rcases Nat.lt_or_ge i s with hi | hi
  · have e1 : (beBytes (beTo ys s) s s)[i]? = some (beByte (beTo ys s) s i) := by simp [beBytes, hi]
    rw [e1]
    unfold beByte
    have hf := beTo_far hr (i + 1) (s - 1 - i) (by omega)
    have hd := (beTo_div (k := i) hr (by omega)).2
    rw [show i + 1 + (s - 1 - i) = s by omega] at hf
    rw [show (2 : Int) ^ (8 * (s - 1 - i)) = 256 ^ (s - 1 - i) by rw [Int.pow_mul]; rfl, hf, hd]
    simp only [List.getD]
    rw [List.getElem?_eq_getElem (by omega)]
    rfl
  · rw [List.getElem?_eq_none (by rw [beBytes_len]; exact hi), List.getElem?_eq_none (by omega)]

theorem stretch {zs : List Int} {a b : Nat} (h : a < b) (hb : b ≤ zs.length) : (zs.drop a).take (b - a) = zs.getD a 0 :: (zs.drop (a + 1)).take (b - a - 1) := by
  rw [List.drop_eq_getElem_cons (show a < zs.length by omega)]
  obtain ⟨m, hm⟩ : ∃ m, b - a = m + 1 := ⟨b - a - 1, by omega⟩
  rw [hm, List.take_succ_cons]
  simp [List.getD, List.getElem?_eq_getElem (show a < zs.length by omega)]
theorem stretch_app {zs : List Int} {a b c : Nat} (h : a ≤ b) (h2 : b ≤ c) : (zs.drop a).take (c - a) = (zs.drop a).take (b - a) ++ (zs.drop b).take (c - b) := by
  rw [show c - a = (b - a) + (c - b) by omega, List.take_add, List.drop_drop, show a + (b - a) = b by omega]

/-- the head's bytes are the encoding of the head -/
theorem head_enc {zs : List Int} {N a : Nat} (hr : ∀ z ∈ zs, 0 ≤ z ∧ z ≤ 255) (hl : zs.length = N) {k n : Int} {a2 : Nat} (h : headE zs N a = (k, n, 0, a2)) :
    (k ≤ 6 ∧ encHead (k - 1) n = (zs.drop a).take (a2 - a)) ∨ (k = 7 ∧ [244 + n] = (zs.drop a).take (a2 - a)) ∨ (k = 8 ∧ [246] = (zs.drop a).take (a2 - a)) := by
  have hok := head_ok hr hl h
  have hst := stretch (zs := zs) (a := a) (b := a2) hok.2.2.2.2.2.2.1 (by omega)
  unfold headE at h
  by_cases hN : N ≤ a
  · rw [if_pos hN] at h; simp at h
  rw [if_neg hN] at h
  have hby : 0 ≤ zs.getD a 0 ∧ zs.getD a 0 ≤ 255 := by
    simp only [List.getD, List.getElem?_eq_getElem (show a < zs.length by omega), Option.getD_some]
    exact hr _ (List.getElem_mem _)
  generalize zs.getD a 0 = x at *
  by_cases hx : x = 244 ∨ x = 245 ∨ x = 246
  · rw [if_pos hx] at h
    simp only [Prod.mk.injEq] at h
    obtain ⟨h1, h2, _, h4⟩ := h
    subst h4
    rw [show a + 1 - a - 1 = 0 by omega, List.take_zero] at hst
    rcases hx with rfl | rfl | rfl
    · right; left; simp at h1 h2; exact ⟨h1.symm, by rw [← h2, hst]; rfl⟩
    · right; left; simp at h1 h2; exact ⟨h1.symm, by rw [← h2, hst]; rfl⟩
    · right; right; simp at h1; exact ⟨h1.symm, by rw [hst]⟩
  rw [if_neg hx] at h
  by_cases hbad : 6 < 1 + x / 32 ∨ 27 < x % 32
  · rw [if_pos hbad] at h; simp at h
  rw [if_neg hbad] at h
  by_cases hlow : x % 32 < 24
  · rw [if_pos hlow] at h
    simp only [Prod.mk.injEq] at h
    obtain ⟨rfl, rfl, _, rfl⟩ := h
    left
    refine ⟨by omega, ?_⟩
    rw [hst, show a + 1 - a - 1 = 0 by omega, List.take_zero, encHead0 hlow]
    congr 1
    omega
  rw [if_neg hlow] at h
  obtain ⟨j, hj⟩ : ∃ j : Nat, x % 32 - 24 = j := ⟨(x % 32 - 24).toNat, by omega⟩
  rw [hj, Int.toNat_natCast] at h
  by_cases hsh : N < a + 1 + 2 ^ j
  · rw [if_pos hsh] at h; simp at h
  rw [if_neg hsh] at h
  by_cases hok2 : argSz (widN zs a (2 ^ j)) = ((2 ^ j : Nat) : Int)
  · rw [if_pos hok2] at h
    simp only [Prod.mk.injEq] at h
    obtain ⟨rfl, rfl, _, rfl⟩ := h
    left
    refine ⟨by omega, ?_⟩
    rw [hst, show a + 1 + 2 ^ j - a - 1 = 2 ^ j by omega]
    have hys : ((zs.drop (a + 1)).take (2 ^ j)).length = 2 ^ j := by simp; omega
    have hbk := beBytes_back (ys := (zs.drop (a + 1)).take (2 ^ j)) (s := 2 ^ j) (fun z hz => hr z (List.mem_of_mem_drop (List.mem_of_mem_take hz))) hys
    have hw : widN zs a (2 ^ j) = beTo ((zs.drop (a + 1)).take (2 ^ j)) (2 ^ j) := rfl
    rw [← hw] at hbk
    generalize (zs.drop (a + 1)).take (2 ^ j) = ys at *
    generalize widN zs a (2 ^ j) = n at *
    have hx2 : x = (1 + x / 32 - 1) * 32 + (24 + (j : Int)) := by omega
    generalize 1 + x / 32 - 1 = m at *
    have hj4 : j = 0 ∨ j = 1 ∨ j = 2 ∨ j = 3 := by omega
    unfold argSz at hok2
    rcases hj4 with rfl | rfl | rfl | rfl
    · by_cases c0 : n < 24
      · rw [if_pos c0] at hok2; simp at hok2
      rw [if_neg c0] at hok2
      by_cases c1 : n < 256
      · rw [encHead1 (by omega) c1, hx2]; rw [show (2 : Nat) ^ 0 = 1 from rfl] at hbk; rw [hbk]; rfl
      · rw [if_neg c1] at hok2; exfalso; split at hok2 <;> (try split at hok2) <;> simp at hok2
    · by_cases c0 : n < 24
      · rw [if_pos c0] at hok2; simp at hok2
      rw [if_neg c0] at hok2
      by_cases c1 : n < 256
      · rw [if_pos c1] at hok2; simp at hok2
      rw [if_neg c1] at hok2
      by_cases c2 : n < 65536
      · rw [encHead2 (by omega) c2, hx2]; rw [show (2 : Nat) ^ 1 = 2 from rfl] at hbk; rw [hbk]; rfl
      · rw [if_neg c2] at hok2; exfalso; split at hok2 <;> simp at hok2
    · by_cases c0 : n < 24
      · rw [if_pos c0] at hok2; simp at hok2
      rw [if_neg c0] at hok2
      by_cases c1 : n < 256
      · rw [if_pos c1] at hok2; simp at hok2
      rw [if_neg c1] at hok2
      by_cases c2 : n < 65536
      · rw [if_pos c2] at hok2; simp at hok2
      rw [if_neg c2] at hok2
      by_cases c3 : n < 4294967296
      · rw [encHead4 (by omega) c3, hx2]; rw [show (2 : Nat) ^ 2 = 4 from rfl] at hbk; rw [hbk]; rfl
      · rw [if_neg c3] at hok2; simp at hok2
    · by_cases c3 : 4294967296 ≤ n
      · rw [encHead8 c3, hx2]; rw [show (2 : Nat) ^ 3 = 8 from rfl] at hbk; rw [hbk]; rfl
      · exfalso
        by_cases c0 : n < 24
        · rw [if_pos c0] at hok2; simp at hok2
        rw [if_neg c0] at hok2
        by_cases c1 : n < 256
        · rw [if_pos c1] at hok2; simp at hok2
        rw [if_neg c1] at hok2
        by_cases c2 : n < 65536
        · rw [if_pos c2] at hok2; simp at hok2
        rw [if_neg c2, if_pos (by omega)] at hok2; simp at hok2
  · rw [if_neg hok2] at h; simp at h
end Go.Proofs.YtepinmeidjlmmaaDoor
