/- Decode's items are valid, and their encoding is what was read: plain. -/
import Derived.Test.YtepinmeidjlmmaaDoorH9
namespace Go.Proofs.YtepinmeidjlmmaaDoor
open Go.RowKit
set_option maxRecDepth 100000

theorem dataI_str (ys : List Int) (hr : ∀ z ∈ ys, 0 ≤ z ∧ z ≤ 255) : dataI (strOfNums ys) = ys := by
  unfold dataI strOfNums
  simp only [List.map_map]
  refine (List.map_congr_left (g := id) fun z hz => ?_).trans (List.map_id _)
  have := hr z hz
  simp only [Function.comp, id]
  rw [UInt8.toNat_ofNat']
  omega

theorem item_enc {zs : List Int} {N c : Nat} {s : List Lv} {a : Nat} (hr : ∀ z ∈ zs, 0 ≤ z ∧ z ≤ 255) (hl : zs.length = N) {x : It} {a3 : Nat} (h : itemE zs N c s a = (0, x, a3)) :
    encItem x.k x.n x.d = (zs.drop a).take (a3 - a) := by
  unfold itemE at h
  obtain ⟨k, n, er, a2, hh⟩ : ∃ k n er a2, headE zs N a = (k, n, er, a2) := ⟨_, _, _, _, rfl⟩
  rw [hh] at h
  unfold bodyE at h
  dsimp only at h
  by_cases he : er = 0
  · subst he
    rw [if_neg (by simp)] at h
    obtain ⟨k1, k8, n0, n64, h7, h8, hlt, hle⟩ := head_ok hr hl hh
    have henc := head_enc hr hl hh
    by_cases hp : placeE c s k = 0
    · rw [if_neg (by simp [hp])] at h
      by_cases hL : tooLargeB k n = true
      · rw [if_pos hL] at h; simp at h
      rw [if_neg hL] at h
      have hL' : tooLargeB k n = false := by simpa using hL
      by_cases hD : hasDataB k = true
      · rw [if_pos hD] at h
        by_cases hs : (N : Int) < a2 + n
        · rw [if_pos hs] at h; simp at h
        rw [if_neg hs] at h
        have hn1 := data_le hL' hD
        obtain ⟨nn, rfl⟩ := Int.eq_ofNat_of_zero_le n0
        rw [Int.toNat_natCast] at h
        by_cases hE : contentE s k 0 (strOfNums ((zs.drop a2).take nn)) = 0
        · rw [if_neg (by simp [hE])] at h
          simp only [Prod.mk.injEq, true_and] at h
          obtain ⟨rfl, rfl⟩ := h
          have h34 : k = 3 ∨ k = 4 := by unfold hasDataB at hD; simpa using hD
          have harg : argN k 0 (strOfNums ((zs.drop a2).take nn)) = nn := by
            unfold argN; rw [if_pos hD, strOfNums_size]; simp; omega
          show encItem k 0 (strOfNums ((zs.drop a2).take nn)) = _
          rw [encItemP (by omega), harg, dataI_str _ (fun z hz => hr z (List.mem_of_mem_drop (List.mem_of_mem_take hz)))]
          rcases henc with ⟨_, h1⟩ | ⟨h1, _⟩ | ⟨h1, _⟩
          · rw [h1, stretch_app (zs := zs) (a := a) (b := a2) (c := a2 + nn) (by omega) (by omega), show a2 + nn - a2 = nn by omega]
          · omega
          · omega
        · rw [if_pos hE] at h
          simp only [Prod.mk.injEq] at h
          exact absurd h.1 hE
      · rw [if_neg hD] at h
        have hD' : hasDataB k = false := by simpa using hD
        by_cases hE : contentE s k n ⟨#[]⟩ = 0
        · rw [if_neg (by simp [hE])] at h
          simp only [Prod.mk.injEq, true_and] at h
          obtain ⟨rfl, rfl⟩ := h
          have harg : argN k n ⟨#[]⟩ = n := by unfold argN; rw [if_neg hD]
          rcases henc with ⟨h6, h1⟩ | ⟨rfl, h1⟩ | ⟨rfl, h1⟩
          · rw [encItemP h6, harg, h1]
            show _ ++ dataI ⟨#[]⟩ = _
            simp [dataI]
          · rw [encItem7]; exact h1
          · rw [encItem8]; exact h1
        · rw [if_pos hE] at h
          simp only [Prod.mk.injEq] at h
          exact absurd h.1 hE
    · rw [if_pos hp] at h
      simp only [Prod.mk.injEq] at h
      exact absurd h.1 hp
  · rw [if_pos he] at h
    simp only [Prod.mk.injEq] at h
    exact absurd h.1 he

theorem decGo_ok {zs : List Int} {N : Nat} (hr : ∀ z ∈ zs, 0 ≤ z ∧ z ≤ 255) (hl : zs.length = N) : ∀ (f c : Nat) (s : List Lv) (a : Nat) (xs l : List It) (u : Nat), a ≤ N → decGo zs N f c s a xs = (0, l, u) →
    ∃ ys, l = xs ++ ys ∧ validGo c s ys = 0 ∧ a ≤ u ∧ u ≤ N ∧ encAll ys = (zs.drop a).take (u - a)
  | 0, c, s, a, xs, l, u, ha, h => by simp [decGo] at h
  | f + 1, c, s, a, xs, l, u, ha, h => by
    by_cases hc : compB c s = true
    · rw [decGo_done hc] at h
      simp only [Prod.mk.injEq, true_and] at h
      obtain ⟨rfl, rfl⟩ := h
      exact ⟨[], by simp, by rw [validGo_nil, if_pos hc], Nat.le_refl _, ha, by simp [encAll]⟩
    · have hc' : compB c s = false := by simpa using hc
      obtain ⟨er, x, a3, hi⟩ : ∃ er x a3, itemE zs N c s a = (er, x, a3) := ⟨_, _, _, rfl⟩
      by_cases he : er = 0
      · subst he
        rw [decGo_next hc' hi] at h
        obtain ⟨hck, _, hlt, hle⟩ := item_ok hr hl hc' hi
        obtain ⟨ys, rfl, hv, h1, h2, h3⟩ := decGo_ok hr hl f _ _ _ _ _ _ hle h
        refine ⟨x :: ys, by simp, by rw [validGo_yes hck]; exact hv, by omega, h2, ?_⟩
        rw [stretch_app (zs := zs) (a := a) (b := a3) (c := u) (by omega) h1, ← item_enc hr hl hi, ← h3]
        simp [encAll]
      · rw [decGo_bad hc' hi he] at h
        simp only [Prod.mk.injEq] at h
        exact absurd h.1 he
theorem decGo_err {zs : List Int} {N : Nat} : ∀ (f c : Nat) (s : List Lv) (a : Nat) (xs : List It), (decGo zs N f c s a xs).1 ≠ 0 → (decGo zs N f c s a xs).2 = ([], 0)
  | 0, c, s, a, xs, _ => rfl
  | f + 1, c, s, a, xs, h => by
    by_cases hc : compB c s = true
    · rw [decGo_done hc] at h; exact absurd rfl h
    · have hc' : compB c s = false := by simpa using hc
      obtain ⟨er, x, a3, hi⟩ : ∃ er x a3, itemE zs N c s a = (er, x, a3) := ⟨_, _, _, rfl⟩
      by_cases he : er = 0
      · subst he
        rw [decGo_next hc' hi] at h ⊢
        exact decGo_err f _ _ _ _ h
      · rw [decGo_bad hc' hi he]

/-- what is read is valid, and it is the encoding -/
theorem decE_ok {zs : List Int} {N : Nat} (hr : ∀ z ∈ zs, 0 ≤ z ∧ z ≤ 255) (hl : zs.length = N) (h : (decE zs N).1 = 0) :
    validE (decE zs N).2.1 = 0 ∧ (decE zs N).2.2 ≤ N ∧ encAll (decE zs N).2.1 = zs.take (decE zs N).2.2 := by
  obtain ⟨ys, h1, h2, _, h4, h5⟩ := decGo_ok hr hl 600 0 [] 0 [] (decE zs N).2.1 (decE zs N).2.2 (Nat.zero_le _) (by rw [← h]; rfl)
  rw [List.nil_append] at h1
  rw [h1]
  refine ⟨h2, h4, ?_⟩
  rw [h5]
  simp
theorem decE_err {zs : List Int} {N : Nat} (h : (decE zs N).1 ≠ 0) : (decE zs N).2.1 = [] ∧ (decE zs N).2.2 = 0 := by
  have := decGo_err (zs := zs) (N := N) 600 0 [] 0 [] h
  exact ⟨congrArg Prod.fst this, congrArg Prod.snd this⟩
end Go.Proofs.YtepinmeidjlmmaaDoor
