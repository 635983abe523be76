/- Joined: U1, U2, U3, U4, U5, U6, U7. -/
import Derived.Test.YtepinmeidjlmmaaDoorJ6
import Derived.Test.YtepinmeidjlmmaaDoorJ11
import Derived.Test.YtepinmeidjlmmaaDoorJ5
import Derived.Laws.AppendOwnNone
/- What is encoded is read back: plain. -/
namespace Go.Proofs.YtepinmeidjlmmaaDoor
open Go.RowKit
set_option maxRecDepth 100000

theorem drop_cons {α : Type} {X r : List α} {x : α} {p : Nat} (h : X.drop p = x :: r) : X[p]? = some x ∧ X.drop (p + 1) = r := by
  refine ⟨?_, ?_⟩
  · have e : (X.drop p)[0]? = some x := by rw [h]; rfl
    rwa [List.getElem?_drop, Nat.add_zero] at e
  · have e : (X.drop p).drop 1 = r := by rw [h]; rfl
    rwa [List.drop_drop] at e
theorem drop_app' {α : Type} {X s r : List α} {p : Nat} (h : X.drop p = s ++ r) : X.drop (p + s.length) = r := by
  have e : (X.drop p).drop s.length = r := by rw [h]; simp
  rwa [List.drop_drop] at e
theorem drop_len {α : Type} {X s : List α} {p : Nat} (h : X.drop p = s) (hs : s ≠ []) : X.length = p + s.length := by
  have e := congrArg List.length h
  have : 0 < s.length := List.length_pos_iff.2 hs
  rw [List.length_drop] at e
  omega

theorem beBytes_get {n : Int} {s k : Nat} (h : k < s) : (beBytes n s s).getD k 0 = beByte n s k := by
  simp [beBytes, List.getD, h]
theorem beTo_be {n : Int} {s : Nat} (h0 : 0 ≤ n) (h1 : n < 256 ^ s) : ∀ k, k ≤ s → beTo (beBytes n s s) k = n / 256 ^ (s - k)
  | 0, _ => by
    rw [Nat.sub_zero, Int.ediv_eq_zero_of_lt h0 h1]
    simp [beTo]
  | k + 1, h => by
    have ih := beTo_be h0 h1 k (by omega)
    rw [beTo_succ (by rw [beBytes_len]; omega), ih, beBytes_get (by omega)]
    unfold beByte
    rw [show (2 : Int) ^ (8 * (s - 1 - k)) = 256 ^ (s - 1 - k) by rw [Int.pow_mul]; rfl, show s - k = (s - 1 - k) + 1 by omega, show s - (k + 1) = s - 1 - k by omega, Int.pow_succ, ← Int.ediv_ediv_of_nonneg (Int.pow_nonneg (by decide))]
    omega
theorem beTo_all {n : Int} {s : Nat} (h0 : 0 ≤ n) (h1 : n < 256 ^ s) : beTo (beBytes n s s) s = n := by
  rw [beTo_be h0 h1 s (Nat.le_refl _), Nat.sub_self]
  simp

/-- a head, whole -/
theorem head_one {zs r : List Int} {N a : Nat} {m n : Int} (hl : zs.length = N) (hm0 : 0 ≤ m) (hm : m ≤ 5) (hn0 : 0 ≤ n) (hn : n < 24) (h : zs.drop a = (m * 32 + n) :: r) : headE zs N a = (1 + m, n, 0, a + 1) := by
  have hN := drop_len h (by simp)
  rw [List.length_cons] at hN
  have hx : zs.getD a 0 = m * 32 + n := by rw [List.getD, (drop_cons h).1]; rfl
  unfold headE
  rw [hx, if_neg (by omega), if_neg (by omega), if_neg (by omega), if_pos (by omega)]
  rw [show (m * 32 + n) / 32 = m by omega, show (m * 32 + n) % 32 = n by omega]
theorem head_lit {zs r : List Int} {N a : Nat} {x : Int} (hl : zs.length = N) (hx3 : x = 244 ∨ x = 245 ∨ x = 246) (h : zs.drop a = x :: r) : headE zs N a = (if x = 246 then 8 else 7, if x = 245 then 1 else 0, 0, a + 1) := by
  have hN := drop_len h (by simp)
  rw [List.length_cons] at hN
  have hx : zs.getD a 0 = x := by rw [List.getD, (drop_cons h).1]; rfl
  unfold headE
  rw [hx, if_neg (by omega), if_pos hx3]
theorem head_many {zs r : List Int} {N a : Nat} {m n : Int} (j : Nat) (hl : zs.length = N) (hm0 : 0 ≤ m) (hm : m ≤ 5) (hj : j < 4) (hn0 : 0 ≤ n) (hn : n < 256 ^ 2 ^ j) (ha : argSz n = ((2 ^ j : Nat) : Int))
    (h : zs.drop a = (m * 32 + (24 + (j : Int))) :: (beBytes n (2 ^ j) (2 ^ j) ++ r)) : headE zs N a = (1 + m, n, 0, a + 1 + 2 ^ j) := by
  have hN := drop_len h (by simp)
  rw [List.length_cons, List.length_append, beBytes_len] at hN
  obtain ⟨h1, h2⟩ := drop_cons h
  have hx : zs.getD a 0 = m * 32 + (24 + (j : Int)) := by rw [List.getD, h1]; rfl
  have hw : widN zs a (2 ^ j) = n := by
    unfold widN
    rw [h2, List.take_append_of_le_length (by rw [beBytes_len]; exact Nat.le_refl _), List.take_of_length_le (by rw [beBytes_len]; exact Nat.le_refl _)]
    exact beTo_all hn0 hn
  have hjj : ((m * 32 + (24 + (j : Int))) % 32 - 24).toNat = j := by omega
  have hlt : ¬ N < a + 1 + 2 ^ j := by
    generalize 2 ^ j = S at hN ⊢
    omega
  have hNa : ¬ N ≤ a := by
    generalize 2 ^ j = S at hN
    omega
  unfold headE
  rw [hx, if_neg hNa, if_neg (by omega), if_neg (by omega), if_neg (by omega), hjj, if_neg hlt, hw, if_pos ha]
  rw [show (m * 32 + (24 + (j : Int))) / 32 = m by omega]
theorem head_full {zs r : List Int} {N a : Nat} {m n : Int} (hl : zs.length = N) (hm0 : 0 ≤ m) (hm : m ≤ 5) (hn0 : 0 ≤ n) (hn : n < 18446744073709551616) (h : zs.drop a = encHead m n ++ r) : headE zs N a = (1 + m, n, 0, a + (encHead m n).length) := by
  by_cases h1 : n < 24
  · rw [encHead0 h1] at h ⊢
    exact head_one hl hm0 hm hn0 h1 h
  by_cases h2 : n < 256
  · rw [encHead1 (by omega) h2] at h ⊢
    have := head_many (r := r) 0 hl hm0 hm (by decide) hn0 (show n < 256 ^ 2 ^ 0 from h2) (by rw [argSz, if_neg h1, if_pos h2]; rfl) h
    rw [this, List.length_cons, beBytes_len]
  by_cases h3 : n < 65536
  · rw [encHead2 (by omega) h3] at h ⊢
    have := head_many (r := r) 1 hl hm0 hm (by decide) hn0 (show n < 256 ^ 2 ^ 1 from h3) (by rw [argSz, if_neg h1, if_neg h2, if_pos h3]; rfl) h
    rw [this, List.length_cons, beBytes_len]
  by_cases h4 : n < 4294967296
  · rw [encHead4 (by omega) h4] at h ⊢
    have := head_many (r := r) 2 hl hm0 hm (by decide) hn0 (show n < 256 ^ 2 ^ 2 from h4) (by rw [argSz, if_neg h1, if_neg h2, if_neg h3, if_pos h4]; rfl) h
    rw [this, List.length_cons, beBytes_len]
  · rw [encHead8 (by omega)] at h ⊢
    have := head_many (r := r) 3 hl hm0 hm (by decide) hn0 (show n < 256 ^ 2 ^ 3 from hn) (by rw [argSz, if_neg h1, if_neg h2, if_neg h3, if_neg h4]; rfl) h
    rw [this, List.length_cons, beBytes_len]

/-- a head, cut -/
theorem head_none {zs : List Int} {N a : Nat} (hN : N ≤ a) : headE zs N a = (0, 0, 1, a) := by unfold headE; rw [if_pos hN]
theorem head_cut1 {zs r : List Int} {N a : Nat} {m : Int} (j : Nat) (hl : zs.length = N) (hm0 : 0 ≤ m) (hm : m ≤ 5) (hj : j < 4) (hr : r.length < 2 ^ j) (h : zs.drop a = (m * 32 + (24 + (j : Int))) :: r) : headE zs N a = (0, 0, 1, a) := by
  have hN := drop_len h (by simp)
  rw [List.length_cons] at hN
  have hx : zs.getD a 0 = m * 32 + (24 + (j : Int)) := by rw [List.getD, (drop_cons h).1]; rfl
  have hjj : ((m * 32 + (24 + (j : Int))) % 32 - 24).toNat = j := by omega
  unfold headE
  rw [hx, if_neg (by omega), if_neg (by omega), if_neg (by omega), if_neg (by omega), hjj, if_pos (by omega)]
theorem head_cut {zs : List Int} {N a i : Nat} {m n : Int} (hl : zs.length = N) (hm0 : 0 ≤ m) (hm : m ≤ 5) (h : zs.drop a = (encHead m n).take i) (hi : i < (encHead m n).length) : headE zs N a = (0, 0, 1, a) := by
  cases i with
  | zero =>
    have e := congrArg List.length h
    rw [List.length_drop, List.take_zero, List.length_nil] at e
    exact head_none (by omega)
  | succ i =>
    have hcut : ∀ j : Nat, j < 4 → encHead m n = (m * 32 + (24 + (j : Int))) :: beBytes n (2 ^ j) (2 ^ j) → headE zs N a = (0, 0, 1, a) := by
      intro j hj he
      rw [he] at h hi
      rw [List.take_succ_cons] at h
      rw [List.length_cons, beBytes_len] at hi
      exact head_cut1 j hl hm0 hm hj (by rw [List.length_take, beBytes_len]; omega) h
    by_cases h1 : n < 24
    · rw [encHead0 h1] at hi; simp at hi
    by_cases h2 : n < 256
    · exact hcut 0 (by decide) (encHead1 (by omega) h2)
    by_cases h3 : n < 65536
    · exact hcut 1 (by decide) (encHead2 (by omega) h3)
    by_cases h4 : n < 4294967296
    · exact hcut 2 (by decide) (encHead4 (by omega) h4)
    · exact hcut 3 (by decide) (encHead8 (by omega))
end Go.Proofs.YtepinmeidjlmmaaDoor

/- What is encoded is read back, item by item: plain. -/
namespace Go.Proofs.YtepinmeidjlmmaaDoor
open Go.RowKit
set_option maxRecDepth 100000

theorem check_parts {c : Nat} {s : List Lv} {k n : Int} {d : ByteArray} (h : checkE c s k n d = 0) : compB c s = false ∧ placeE c s k = 0 ∧ shapeB k n d = true ∧ tooLargeB k (argN k n d) = false ∧ contentE s k n d = 0 := by
  have hA : compB c s = false := by
    cases hA : compB c s with
    | false => rfl
    | true => rw [check2 hA] at h; cases h
  have hP : placeE c s k = 0 := by
    by_cases hP : placeE c s k = 0
    · exact hP
    · rw [checkP hA hP] at h; exact h
  have hS : shapeB k n d = true := by
    cases hS : shapeB k n d with
    | true => rfl
    | false => rw [check4 hA hP hS] at h; cases h
  have hL : tooLargeB k (argN k n d) = false := by
    cases hL : tooLargeB k (argN k n d) with
    | false => rfl
    | true => rw [check8 hA hP hS hL] at h; cases h
  exact ⟨hA, hP, hS, hL, by rw [checkC hA hP hS hL] at h; exact h⟩
theorem empty_is {d : ByteArray} (h : d.toList.isEmpty = true) : d = ⟨#[]⟩ := by
  have := size_of_empty h
  obtain ⟨a⟩ := d
  congr 1
  exact Array.eq_empty_of_size_eq_zero this
theorem str_dataI (d : ByteArray) : strOfNums (dataI d) = d := by
  obtain ⟨a⟩ := d
  unfold strOfNums dataI
  congr 1
  rw [List.map_map]
  have e : ∀ l : List UInt8, l.map ((fun n : Int => UInt8.ofNat n.toNat) ∘ fun b : UInt8 => ((b.toNat : Nat) : Int)) = l := by
    intro l
    refine (List.map_congr_left (g := id) fun z _ => ?_).trans (List.map_id _)
    simp
  rw [e]
/-- the three forms of an item -/
theorem forms {k n : Int} {d : ByteArray} (h1 : 1 ≤ k) (h8 : k ≤ 8) (hS : shapeB k n d = true) :
    (hasDataB k = true ∧ n = 0 ∧ encItem k n d = encHead (k - 1) d.size ++ dataI d) ∨
    (hasDataB k = false ∧ d = ⟨#[]⟩ ∧ (k ≤ 6 ∧ encItem k n d = encHead (k - 1) n ∨ k = 7 ∧ n ≤ 1 ∧ encItem k n d = [244 + n] ∨ k = 8 ∧ n = 0 ∧ encItem k n d = [246])) := by
  cases hD : hasDataB k with
  | true =>
    left
    have h34 : k = 3 ∨ k = 4 := by unfold hasDataB at hD; simpa using hD
    rw [shape_sw (by rw [hD]; simp), if_pos (by omega)] at hS
    have hn : n = 0 := by simpa using hS
    exact ⟨rfl, hn, by rw [encItemP (by omega), argN, if_pos hD]⟩
  | false =>
    right
    have he : d.toList.isEmpty = true := by
      cases he : d.toList.isEmpty with
      | true => rfl
      | false => rw [shape_bad he hD] at hS; cases hS
    have hd := empty_is he
    subst hd
    refine ⟨rfl, rfl, ?_⟩
    by_cases h7 : k = 7
    · subst h7
      rw [shape_sw (by rw [he]; simp)] at hS
      right; left
      exact ⟨rfl, by simpa using hS, encItem7 _ _⟩
    by_cases h8' : k = 8
    · subst h8'
      rw [shape_sw (by rw [he]; simp)] at hS
      right; right
      exact ⟨rfl, by simpa using hS, encItem8 _ _⟩
    · left
      refine ⟨by omega, ?_⟩
      rw [encItemP (by omega), argN, if_neg (by rw [hD]; simp)]
      simp [dataI]

theorem item_full {zs r : List Int} {N a c : Nat} {s : List Lv} {x : It} (hl : zs.length = N) (hc : checkE c s x.k x.n x.d = 0) (hn0 : 0 ≤ x.n) (hn : x.n < 18446744073709551616) (h : zs.drop a = encItem x.k x.n x.d ++ r) :
    itemE zs N c s a = (0, x, a + (encItem x.k x.n x.d).length) := by
  obtain ⟨_, hP, hS, hL, hE⟩ := check_parts hc
  obtain ⟨_, h1, h8, _, hd, _⟩ := check_zero hc
  obtain ⟨k, n, d⟩ := x
  dsimp only at *
  unfold itemE
  rcases forms h1 h8 hS with ⟨hD, rfl, he⟩ | ⟨hD, rfl, hrest⟩
  · rw [he] at h ⊢
    have h34 : k = 3 ∨ k = 4 := by unfold hasDataB at hD; simpa using hD
    rw [List.append_assoc] at h
    have hh := head_full hl (show (0 : Int) ≤ k - 1 by omega) (by omega) (by omega) (by omega) h
    have hdr := drop_app' h
    have hlen : a + (encHead (k - 1) d.size).length + d.size ≤ N := by
      have e := congrArg List.length h
      rw [List.length_drop, List.length_append, List.length_append, dataI_len] at e
      have : 0 < (encHead (k - 1) d.size).length := by
        by_cases h0 : (d.size : Int) < 24
        · rw [encHead0 h0]; simp
        · unfold encHead; rw [if_neg h0]; repeat' split
          all_goals simp
      omega
    rw [argN, if_pos hD] at hL
    have htk : (zs.drop (a + (encHead (k - 1) d.size).length)).take d.size = dataI d := by
      rw [hdr, List.take_append_of_le_length (by rw [dataI_len]; exact Nat.le_refl _), List.take_of_length_le (by rw [dataI_len]; exact Nat.le_refl _)]
    rw [hh]
    unfold bodyE
    dsimp only
    rw [show 1 + (k - 1) = k by omega, if_neg (by simp), if_neg (by rw [hP]; simp), if_neg (by rw [hL]; simp), if_pos hD, if_neg (by omega), Int.toNat_natCast, htk, str_dataI, if_neg (by rw [hE]; simp), List.length_append, dataI_len, Nat.add_assoc]
  · rw [argN, if_neg (by rw [hD]; simp)] at hL
    rcases hrest with ⟨h6, he⟩ | ⟨rfl, h7, he⟩ | ⟨rfl, rfl, he⟩
    · rw [he] at h ⊢
      rw [head_full hl (show (0 : Int) ≤ k - 1 by omega) (by omega) hn0 hn h]
      unfold bodyE
      dsimp only
      rw [show 1 + (k - 1) = k by omega, if_neg (by simp), if_neg (by rw [hP]; simp), if_neg (by rw [hL]; simp), if_neg (by rw [hD]; simp), if_neg (by rw [hE]; simp)]
    · rw [he] at h ⊢
      rw [head_lit hl (by omega) h]
      have e1 : (if 244 + n = 246 then (8 : Int) else 7) = 7 := by rw [if_neg (by omega)]
      have e2 : (if 244 + n = 245 then (1 : Int) else 0) = n := by
        by_cases hq : 244 + n = 245
        · rw [if_pos hq]; omega
        · rw [if_neg hq]; omega
      rw [e1, e2]
      unfold bodyE
      dsimp only
      rw [if_neg (by simp), if_neg (by rw [hP]; simp), if_neg (by rw [hL]; simp), if_neg (by rw [hD]; simp), if_neg (by rw [hE]; simp)]
      rfl
    · rw [he] at h ⊢
      rw [head_lit hl (by omega) h]
      unfold bodyE
      dsimp only
      rw [if_pos rfl, if_neg (show ¬ (246 : Int) = 245 by decide), if_neg (by simp), if_neg (by rw [hP]; simp), if_neg (by rw [hL]; simp), if_neg (by rw [hD]; simp), if_neg (by rw [hE]; simp)]
      rfl

theorem item_cut {zs : List Int} {N a c i : Nat} {s : List Lv} {x : It} (hl : zs.length = N) (hc : checkE c s x.k x.n x.d = 0) (h : zs.drop a = (encItem x.k x.n x.d).take i) (hi : i < (encItem x.k x.n x.d).length) :
    (itemE zs N c s a).1 = 1 := by
  obtain ⟨_, hP, hS, hL, hE⟩ := check_parts hc
  obtain ⟨_, h1, h8, _, hd, _⟩ := check_zero hc
  obtain ⟨k, n, d⟩ := x
  dsimp only at *
  have done : headE zs N a = (0, 0, 1, a) → (itemE zs N c s a).1 = 1 := by
    intro hh
    unfold itemE bodyE
    rw [hh]
    rfl
  have hnone : i = 0 → headE zs N a = (0, 0, 1, a) := by
    rintro rfl
    have e := congrArg List.length h
    rw [List.length_drop, List.take_zero, List.length_nil] at e
    exact head_none (by omega)
  rcases forms h1 h8 hS with ⟨hD, rfl, he⟩ | ⟨hD, rfl, hrest⟩
  · rw [he] at h hi
    have h34 : k = 3 ∨ k = 4 := by unfold hasDataB at hD; simpa using hD
    by_cases hlt : i < (encHead (k - 1) d.size).length
    · rw [List.take_append_of_le_length (by omega)] at h
      exact done (head_cut hl (by omega) (by omega) h hlt)
    · rw [List.take_append, List.take_of_length_le (by omega)] at h
      have hh := head_full hl (show (0 : Int) ≤ k - 1 by omega) (by omega) (by omega) (by omega) h
      rw [argN, if_pos hD] at hL
      have e := congrArg List.length h
      rw [List.length_drop, List.length_append, List.length_take, dataI_len] at e
      rw [List.length_append, dataI_len] at hi
      have hpos : 0 < (encHead (k - 1) d.size).length := by
        by_cases h0 : (d.size : Int) < 24
        · rw [encHead0 h0]; simp
        · unfold encHead; rw [if_neg h0]; repeat' split
          all_goals simp
      unfold itemE bodyE
      rw [hh]
      dsimp only
      rw [show 1 + (k - 1) = k by omega, if_neg (by simp), if_neg (by rw [hP]; simp), if_neg (by rw [hL]; simp), if_pos hD, if_pos (by omega)]
  · rcases hrest with ⟨h6, he⟩ | ⟨rfl, h7, he⟩ | ⟨rfl, rfl, he⟩
    · rw [he] at h hi
      exact done (head_cut hl (by omega) (by omega) h hi)
    · rw [he] at hi; simp at hi; exact done (hnone hi)
    · rw [he] at hi; simp at hi; exact done (hnone hi)

theorem decGo_full {zs r : List Int} {N : Nat} (hl : zs.length = N) : ∀ (ys : List It) (f c : Nat) (s : List Lv) (a : Nat) (xs : List It), (∀ x ∈ ys, 0 ≤ x.n ∧ x.n < 18446744073709551616) → validGo c s ys = 0 → ys.length < f → zs.drop a = encAll ys ++ r →
    decGo zs N f c s a xs = (0, xs ++ ys, a + (encAll ys).length)
  | [], f, c, s, a, xs, hn, hv, hf, h => by
    obtain ⟨f, rfl⟩ : ∃ g, f = g + 1 := ⟨f - 1, by simp at hf; omega⟩
    rw [validGo_nil] at hv
    have hc : compB c s = true := by
      cases hc : compB c s with
      | true => rfl
      | false => rw [hc] at hv; simp at hv
    rw [decGo_done hc]
    simp [encAll]
  | x :: ys, f, c, s, a, xs, hn, hv, hf, h => by
    obtain ⟨f, rfl⟩ : ∃ g, f = g + 1 := ⟨f - 1, by simp at hf; omega⟩
    have hck : checkE c s x.k x.n x.d = 0 := by
      by_cases hck : checkE c s x.k x.n x.d = 0
      · exact hck
      · rw [validGo_no hck] at hv; exact absurd hv hck
    rw [validGo_yes hck] at hv
    have e : encAll (x :: ys) = encItem x.k x.n x.d ++ encAll ys := rfl
    rw [e, List.append_assoc] at h
    have hx := hn x (by simp)
    rw [decGo_next (check_parts hck).1 (item_full hl hck hx.1 hx.2 h), decGo_full hl ys f _ _ _ _ (fun y hy => hn y (by simp [hy])) hv (by simp at hf; omega) (drop_app' h), e, List.length_append, List.append_assoc, Nat.add_assoc]
    rfl
theorem decGo_cut {zs : List Int} {N : Nat} (hl : zs.length = N) : ∀ (ys : List It) (f c : Nat) (s : List Lv) (a i : Nat) (xs : List It), (∀ x ∈ ys, 0 ≤ x.n ∧ x.n < 18446744073709551616) → validGo c s ys = 0 → ys.length < f → zs.drop a = (encAll ys).take i → i < (encAll ys).length →
    (decGo zs N f c s a xs).1 = 1
  | [], f, c, s, a, i, xs, hn, hv, hf, h, hi => by simp [encAll] at hi
  | x :: ys, f, c, s, a, i, xs, hn, hv, hf, h, hi => by
    obtain ⟨f, rfl⟩ : ∃ g, f = g + 1 := ⟨f - 1, by simp at hf; omega⟩
    have hck : checkE c s x.k x.n x.d = 0 := by
      by_cases hck : checkE c s x.k x.n x.d = 0
      · exact hck
      · rw [validGo_no hck] at hv; exact absurd hv hck
    rw [validGo_yes hck] at hv
    have e : encAll (x :: ys) = encItem x.k x.n x.d ++ encAll ys := rfl
    have hx := hn x (by simp)
    rw [e] at h hi
    by_cases hlt : i < (encItem x.k x.n x.d).length
    · rw [List.take_append_of_le_length (by omega)] at h
      have h1 := item_cut hl hck h hlt
      obtain ⟨er, y, a3, hi3⟩ : ∃ er y a3, itemE zs N c s a = (er, y, a3) := ⟨_, _, _, rfl⟩
      rw [hi3] at h1
      dsimp only at h1
      subst h1
      rw [decGo_bad (check_parts hck).1 hi3 (by decide)]
    · rw [List.take_append, List.take_of_length_le (by omega)] at h
      rw [List.length_append] at hi
      rw [decGo_next (check_parts hck).1 (item_full hl hck hx.1 hx.2 h)]
      exact decGo_cut hl ys f _ _ _ _ _ (fun y hy => hn y (by simp [hy])) hv (by simp at hf; omega) (drop_app' h) (by omega)

/-- what is encoded is read back, whatever follows -/
theorem decE_full {l : List It} {r : List Int} {N : Nat} (hn : ∀ x ∈ l, 0 ≤ x.n ∧ x.n < 18446744073709551616) (hv : validE l = 0) (hlen : l.length < 600) (hl : (encAll l ++ r).length = N) : decE (encAll l ++ r) N = (0, l, (encAll l).length) := by
  have h := decGo_full (r := r) hl l 600 0 [] 0 [] hn hv hlen rfl
  rw [Nat.zero_add, List.nil_append] at h
  exact h
/-- a proper prefix is too short -/
theorem decE_cut {l : List It} {i : Nat} (hn : ∀ x ∈ l, 0 ≤ x.n ∧ x.n < 18446744073709551616) (hv : validE l = 0) (hlen : l.length < 600) (hi : i < (encAll l).length) : (decE ((encAll l).take i) i).1 = 1 := by
  exact decGo_cut (by rw [List.length_take]; omega) l 600 0 [] 0 i [] hn hv hlen rfl hi
end Go.Proofs.YtepinmeidjlmmaaDoor

/- The bytes of a tree. -/
namespace Go.Proofs.YtepinmeidjlmmaaDoor
open Go.RowKit
set_option maxRecDepth 100000

/-- what every item of a tree is like, for its encoding -/
structure Whole (x : It) : Prop where
  good : Good x
  pos : 0 ≤ x.n
  u64 : x.n < 18446744073709551616
  small : x.d.size ≤ 100
theorem leaf_whole (n : Nat) : Whole (leafI n) := by
  refine ⟨(leaf_good n).1, (leaf_fine n).1, ?_, (leaf_fine n).2⟩
  unfold leafI shlW
  repeat' split
  all_goals dsimp only
  all_goals omega
theorem key_whole (k i : Nat) (hi : i ≤ 3) : Whole (keyI k i) := by
  refine ⟨(key_good k i).1, (key_fine k i).1, ?_, (key_fine k i).2⟩
  unfold keyI
  split
  · dsimp only; decide
  · dsimp only; omega
theorem kids_whole {T : Nat → List It × Nat} {ky : Nat → List It} (hT : ∀ a, ∀ x ∈ (T a).1, Whole x) (hk : ∀ i, i ≤ 3 → ∀ x ∈ ky i, Whole x) :
    ∀ c i a, i + c ≤ 3 → ∀ x ∈ (kidsE T ky c i a).1, Whole x
  | 0, i, a, hi, x, h => by simp [kidsE] at h
  | c + 1, i, a, hi, x, h => by
    simp only [kidsE, List.mem_append] at h
    rcases h with (h | h) | h
    · exact hk i (by omega) x h
    · exact hT a x h
    · exact kids_whole hT hk c (i + 1) _ (by omega) x h
theorem keysOf_whole (n : Nat) : ∀ i, i ≤ 3 → ∀ x ∈ keysOf n i, Whole x := by
  intro i hi x h
  unfold keysOf at h
  split at h
  · simp at h
  · simp at h; subst h; exact key_whole _ _ hi
theorem head_whole (n : Nat) : Whole (headI n) := by
  refine ⟨(head_good n).1, Int.natCast_nonneg _, ?_, none_small⟩
  show ((n / 8 % 4 : Nat) : Int) < _
  omega
theorem tree_whole (l : List Int) : ∀ f a, ∀ x ∈ (treeE l f a).1, Whole x
  | 0, a, x, h => by simp [treeE] at h; subst h; exact leaf_whole _
  | f + 1, a, x, h => by
    by_cases hn : nestB (atI l a) a = true
    · rw [treeE_nest hn] at h
      simp only [List.mem_cons] at h
      rcases h with h | h
      · subst h; exact head_whole _
      · exact kids_whole (tree_whole l f) (keysOf_whole _) _ _ _ (by omega) x h
    · have h' : nestB (atI l a) a = false := by simpa using hn
      rw [treeE_leaf h'] at h
      simp at h; subst h; exact leaf_whole _
theorem treeL_whole (l : List Int) : ∀ x ∈ treeL l, Whole x := tree_whole l 4 0

theorem encHead_rng {m n : Int} (hm0 : 0 ≤ m) (hm : m ≤ 5) (hn0 : 0 ≤ n) : ∀ z ∈ encHead m n, 0 ≤ z ∧ z ≤ 255 := by
  have hb : ∀ s, ∀ z ∈ beBytes n s s, 0 ≤ z ∧ z ≤ 255 := by
    intro s z hz
    unfold beBytes at hz
    obtain ⟨i, _, rfl⟩ := List.mem_map.1 hz
    unfold beByte
    omega
  unfold encHead
  intro z hz
  repeat' split at hz
  · simp at hz; omega
  all_goals
    rcases List.mem_cons.1 hz with rfl | hz
    · omega
    · exact hb _ z hz
theorem dataI_rng (d : ByteArray) : ∀ z ∈ dataI d, 0 ≤ z ∧ z ≤ 255 := by
  intro z hz
  unfold dataI at hz
  obtain ⟨b, _, rfl⟩ := List.mem_map.1 hz
  have := b.toNat_lt
  omega
theorem encItem_rng {x : It} (h : Whole x) : (∀ z ∈ encItem x.k x.n x.d, 0 ≤ z ∧ z ≤ 255) ∧ 1 ≤ (encItem x.k x.n x.d).length ∧ (encItem x.k x.n x.d).length ≤ 109 := by
  have h1 := h.good.k1
  have h8 := h.good.k8
  have hp := h.pos
  have hs := h.small
  have hpos : ∀ m n, 1 ≤ (encHead m n).length := by
    intro m n
    unfold encHead
    repeat' split
    all_goals simp
  rcases forms h1 h8 h.good.sh with ⟨hD, hn, he⟩ | ⟨_, hd, hrest⟩
  · rw [he]
    have h34 : x.k = 3 ∨ x.k = 4 := by unfold hasDataB at hD; simpa using hD
    refine ⟨fun z hz => ?_, ?_, ?_⟩
    · rcases List.mem_append.1 hz with hz | hz
      · exact encHead_rng (by omega) (by omega) (by omega) z hz
      · exact dataI_rng _ z hz
    · have := hpos (x.k - 1) x.d.size
      rw [List.length_append]; omega
    · have := encHead_len (x.k - 1) x.d.size
      rw [List.length_append, dataI_len]; omega
  · rcases hrest with ⟨h6, he⟩ | ⟨_, h7, he⟩ | ⟨_, _, he⟩
    · rw [he]
      have := encHead_len (x.k - 1) x.n
      exact ⟨encHead_rng (by omega) (by omega) hp, hpos _ _, by omega⟩
    · rw [he]
      refine ⟨fun z hz => ?_, by simp, by simp⟩
      simp at hz; omega
    · rw [he]
      refine ⟨fun z hz => ?_, by simp, by simp⟩
      simp at hz; omega
theorem encAll_rng : ∀ (l : List It), (∀ x ∈ l, Whole x) → (∀ z ∈ encAll l, 0 ≤ z ∧ z ≤ 255) ∧ l.length ≤ (encAll l).length ∧ (encAll l).length ≤ l.length * 109
  | [], _ => by simp [encAll]
  | x :: l, h => by
    obtain ⟨h1, h2, h3⟩ := encItem_rng (h x (by simp))
    obtain ⟨g1, g2, g3⟩ := encAll_rng l fun y hy => h y (by simp [hy])
    have e : encAll (x :: l) = encItem x.k x.n x.d ++ encAll l := rfl
    rw [e, List.length_append, List.length_cons]
    refine ⟨fun z hz => ?_, by omega, by omega⟩
    rcases List.mem_append.1 hz with hz | hz
    · exact h1 z hz
    · exact g1 z hz

/-- the bytes of a tree -/
def treeB (l : List Int) : List Int := encAll (treeL l)
theorem treeB_rng (l : List Int) : ∀ z ∈ treeB l, 0 ≤ z ∧ z ≤ 255 := (encAll_rng _ (treeL_whole l)).1
theorem treeB_len (l : List Int) : 1 ≤ (treeB l).length ∧ (treeB l).length ≤ 26269 := by
  obtain ⟨_, h2, h3⟩ := encAll_rng _ (treeL_whole l)
  have h4 := treeL_len l
  have h5 : 0 < (treeL l).length := List.length_pos_iff.2 (treeL_ne l)
  unfold treeB
  omega
theorem treeB_back (l : List Int) (r : List Int) {N : Nat} (h : (treeB l ++ r).length = N) : decE (treeB l ++ r) N = (0, treeL l, (treeB l).length) :=
  decE_full (fun x hx => ⟨(treeL_whole l x hx).pos, (treeL_whole l x hx).u64⟩) (tree_valid l) (by have := treeL_len l; omega) h
theorem treeB_cut (l : List Int) {i : Nat} (h : i < (treeB l).length) : (decE ((treeB l).take i) i).1 = 1 :=
  decE_cut (fun x hx => ⟨(treeL_whole l x hx).pos, (treeL_whole l x hx).u64⟩) (tree_valid l) (by have := treeL_len l; omega) h

theorem own_row_bys {w : World} {base n : Nat} {v : Value} {zs : List Int} (h : w.ownsRow base 5 1 v n (bv zs)) (hr : ∀ z ∈ zs, 0 ≤ z ∧ z ≤ 255) : ∃ A cap, v = .slice A n cap ∧ Bys w A n zs ∧ n ≤ cap ∧ cap ≤ 9223372036854775807 := by
  obtain ⟨A, cap, hv, hb⟩ := own_bys h hr
  refine ⟨A, cap, hv, hb, ?_⟩
  rcases h.2 with ⟨hv', h0⟩ | ⟨g, cap', cur, hv', _, _, h1, h2, _⟩
  · rw [hv] at hv'; cases hv'; omega
  · rw [hv] at hv'; cases hv'; unfold maxLen at h2; omega
theorem tree_items {w : World} {base g c : Nat} {l : List Int} (h : w.ownsRow base 58 3 (.slice (some ⟨g, 0, none⟩) (treeL l).length c) (treeL l).length (itCells (treeL l))) : ItemsAt w w.heap.size (.slice (some ⟨g, 0, none⟩) (treeL l).length c) (treeL l) :=
  itemsAt_own h (fun x hx => ⟨(treeL_fine l x hx).1, by have := (treeL_fine l x hx).2; unfold maxLen; omega⟩) (by have := treeL_len l; omega)
end Go.Proofs.YtepinmeidjlmmaaDoor

/- The law CborCuts, walked. -/
namespace Go.Proofs.YtepinmeidjlmmaaDoor
open Go.RowKit
set_option maxRecDepth 100000

set_option maxHeartbeats 2000000 in
theorem cuts_law (A : Option Addr) (n cap : Nat) (l : List Int) (w : World) (h : Ints w A n l) (hn : n ≤ 9223372036854775807) (ht : Tabs w) :
    Calls Tryd.prog 8 #[.slice A n cap] w fun e w' => e = .returned (.bool true) ∧ Below w.heap.size w w' := by
  have HC := Lib.hid (Tree_any A n cap l w h hn)
  have HT := Lib.hid ht
  obtain ⟨N, hN⟩ : ∃ N, (treeB l).length = N := ⟨_, rfl⟩
  have hb := treeB_len l
  rw [hN] at hb
  obtain ⟨hb1, hb2⟩ := hb
  have HCUT := Lib.hid (fun i (hi : i < N) => treeB_cut l (i := i) (by rw [hN]; exact hi))
  have HR := Lib.hid (treeB_rng l)
  have HN := Lib.hid hN
  clear h ht hN
  go_enter Tryd.func8, Tryd.ntmps8
  go_wp2_with (go_at_call 20; refine HC.out.mono ?_; rintro e w1 ⟨g, c, rfl, ho, hb⟩)
  have HI := Lib.hid (tree_items ho)
  have HB1 := Lib.hid hb
  clear ho hb
  refine (encode_good (treeL l) _ w1 HI.out (HT.out.later HB1.out) (tree_valid l)).mono ?_
  rintro e w2 ⟨v2, rfl, ho2, hb2'⟩
  rw [show (encAll (treeL l)).length = N from HN.out] at ho2
  obtain ⟨A2, c2, hv2, hby, hle, hcm⟩ := own_row_bys ho2 HR.out
  subst hv2
  have HBY := Lib.hid hby
  have HB2 := Lib.hid (HB1.out.trans (hb2'.mono HB1.out.size))
  have hs2 := HB2.out.size
  clear ho2 hb2' hby
  have hN0 : ((N : Int) == 0) = false := by rw [beq_eq_false_iff_ne]; omega
  go_wp2_with fail
  go_loopw [2, 5] (fun _ i wr => ∃ j : Nat, j ≤ N ∧ i = .int .i64 j ∧ Below w2.heap.size w2 wr) (fun _ i _ => N - (intOf i).toNat)
  case atStart => exact ⟨0, by omega, rfl, Below.refl _ _⟩
  case round =>
    obtain ⟨j, hj, rfl, hbw⟩ := hrel
    have HBW := Lib.hid hbw
    have hsz := hbw.size
    clear hbw
    by_cases hlt : j < N
    · have hlt2 : (j : Int) < (N : Int) := by omega
      have hlt3 : (j : Int) ≤ (c2 : Int) := by omega
      have hD := decode_any A2 j c2 ((treeB l).take j) wr ((HBY.out.below HBW.out).take j (by omega)) (by omega) hcm (by omega) (HT.out.later (HB2.out.trans (HBW.out.mono hs2)))
      have hcut := HCUT.out j hlt
      unfold DecP at hD
      generalize decE ((treeB l).take j) j = r at hD hcut
      obtain ⟨er, xs, u⟩ := r
      dsimp only at hD hcut
      subst hcut
      have HD := Lib.hid hD
      clear hD
      go_wp2_with (go_at_call 22; refine HD.out.mono ?_; rintro e w3 ⟨v3, rfl, _, hb3, _, _, _⟩)
      go_roundw
      case rel => exact ⟨j + 1, by omega, by go_num, HBW.out.trans (hb3.mono hsz)⟩
      case measure => simp [intOf]; omega
    · obtain rfl : N = j := by omega
      have hlt2 : ¬ (N : Int) < (N : Int) := by omega
      go_wp2_with (go_at_call 15; refine (awake_any _ (HT.out.later (HB2.out.trans (HBW.out.mono hs2)))).mono ?_; rintro e w4 ⟨rfl, hb4⟩)
      go_ret
      exact ⟨rfl, (HB2.out.trans (HBW.out.mono hs2)).trans (hb4.mono (Nat.le_trans hs2 hsz))⟩
end Go.Proofs.YtepinmeidjlmmaaDoor

/- A []int argument, opened. -/
namespace Go.Proofs.YtepinmeidjlmmaaDoor
open Go.ChangeShapes Go.WideShapes Go.ChangeAt Go.RowKit
set_option maxRecDepth 100000

theorem open_nums {H : Type} {enc : TypeId × Value → H} {W : World} {b0 base : Nat} {r : Reach} {v : Value} {d : DataW H} {ps : List MemPlace} (hval : Value.okWide Tryd.prog W r b0 30 v) (hd : DataW.Trod enc Tryd.prog W base (fun _ => true) true 30 v d ps) :
    ∃ (A : Option Addr) (n cap : Nat) (l : List Int), v = .slice A n cap ∧ n ≤ 9223372036854775807 ∧ Ints W A n l := by
  obtain ⟨a0, len, cap, rfl⟩ := okWide_slice Tryd.underlying30 hval
  obtain ⟨fuel, hf⟩ := hd
  rcases open_ints Tryd.underlying30 Tryd.underlying3 tryd_cells3 hf with ⟨hcs, hx⟩ | ⟨a, len', cap', zs, hcs, _, hl, hm, hz, hx, hcell, hwz⟩
  · simp [Value.cells] at hcs
    obtain ⟨rfl, rfl, rfl⟩ := hcs
    exact ⟨none, 0, 0, [], rfl, by omega, rfl, fun i hi => absurd hi (by omega)⟩
  · simp [Value.cells] at hcs
    obtain ⟨rfl, rfl, rfl⟩ := hcs
    simp only [if_true] at hz
    refine ⟨some a, len, cap, zs.take len, rfl, by unfold maxLen at hm; omega, by simp; omega, fun i hi => ⟨a, rfl, ?_⟩⟩
    rw [hcell i (by omega)]
    simp [List.getD, hi]
end Go.Proofs.YtepinmeidjlmmaaDoor

/- The law CborBack, walked. -/
namespace Go.Proofs.YtepinmeidjlmmaaDoor
open Go.RowKit
set_option maxRecDepth 100000

/-- append(b, u...) of bytes, b the call's own -/
theorem app_bytes {ops : Array Oper} {rest : List Oper} {o : Oper} {a : Act} {Q : Exit → Act → World → Prop} {w : World} (hgd : o.guard = none) (s x : Operand)
    (ho : o.op = .call { callee := .builtin .append, args := #[s, x], argTypes := #[25, 25] })
    (base : Nat) (v : Value) (n : Nat) (xs : List Int) (A : Option Addr) (m cap : Nat) (zs : List Int) (hown : w.ownsRow base 5 1 v n (bv xs)) (hs : a.eval s = v)
    (hB : Bys w A m zs) (hnone : A = none → m = 0 ∧ cap = 0) (hx : a.eval x = .slice A m cap) (hn : n + m ≤ 100000000000000) (hb : base ≤ w.heap.size)
    (h : ∀ v' w', w'.ownsRow base 5 1 v' (n + m) (bv (xs ++ zs)) → Below base w w' → wpList Tryd.prog ops Q rest (a.put o.dst v') w') :
    wpList Tryd.prog ops Q (o :: rest) a w := by
  obtain ⟨i0, hi, hz0, hz1, hz2⟩ := info_parts info5
  cases A with
  | none =>
    obtain ⟨rfl, rfl⟩ := hnone rfl
    have hz : zs = [] := List.eq_nil_of_length_eq_zero hB.len
    subst hz
    refine wpList_append_own_none hgd s x 25 ho base 5 i0 1 Tryd.underlying25 hi v n (bv xs) hs hown hx ?_
    exact h v w (by rw [List.append_nil]; exact hown) (Below.refl _ _)
  | some ad =>
    refine wpList_append_own _ hgd s x 25 ho base 5 i0 (.int .u8 0) 1 1 Tryd.underlying25 hi hz0 hz1 hz2 rfl (by decide) v n (bv xs) hs hown ad m cap (bv zs) hx (by rw [bv_len, hB.len, Nat.mul_one]) ?_ ?_ (by unfold maxLen; omega) (by omega) hb ?_
    · intro j u hj
      simp only [bv, List.getElem?_map, Option.map_eq_some_iff] at hj
      obtain ⟨z, hz, rfl⟩ := hj
      have hjm : j < m := by
        have := hB.len
        rcases Nat.lt_or_ge j zs.length with h1 | h1
        · omega
        · rw [List.getElem?_eq_none h1] at hz; cases hz
      obtain ⟨a2, e, hc⟩ := hB.at_ j hjm
      cases e
      rw [hc]
      simp [List.getD, hz]
    · intro u hu
      simp only [bv, List.mem_map] at hu
      obtain ⟨z, _, rfl⟩ := hu
      rfl
    · intro v' w' h1 h2 _
      rw [← bv_app] at h1
      exact h v' w' h1 (below_of_grown hown hb h2)

set_option maxHeartbeats 2000000 in
theorem back_dark (A R : Option Addr) (n cap M rc : Nat) (w : World) (hM : 300 < M) (ht : Tabs w) :
    Calls Tryd.prog 6 #[.slice A n cap, .slice R M rc] w fun e w' => e = .returned (.bool true) ∧ Below w.heap.size w w' := by
  have hM2 : (300 : Int) < (M : Int) := by omega
  have HT := Lib.hid ht
  clear ht
  go_enter Tryd.func6, Tryd.ntmps6
  go_wp2_with (go_at_call 15; refine (awake_any _ HT.out).mono ?_; rintro e w1 ⟨rfl, hb1⟩)
  go_ret
  exact ⟨rfl, hb1⟩

set_option maxHeartbeats 2000000 in
theorem back_law (A R : Option Addr) (n cap M rc : Nat) (l rs : List Int) (w : World) (h : Ints w A n l) (hn : n ≤ 9223372036854775807) (hr : Bys w R M rs) (hnone : R = none → M = 0 ∧ rc = 0) (hM : M ≤ 300) (ht : Tabs w) :
    Calls Tryd.prog 6 #[.slice A n cap, .slice R M rc] w fun e w' => e = .returned (.bool true) ∧ Below w.heap.size w w' := by
  have hM2 : ¬ (300 : Int) < (M : Int) := by omega
  have HC := Lib.hid (Tree_any A n cap l w h hn)
  have HT := Lib.hid ht
  have HBR := Lib.hid hr
  have HNO := Lib.hid hnone
  obtain ⟨N, hN⟩ : ∃ N, (treeB l).length = N := ⟨_, rfl⟩
  have hb := treeB_len l
  rw [hN] at hb
  obtain ⟨hb1, hb2⟩ := hb
  have HBACK := Lib.hid (treeB_back l rs (N := N + M) (by rw [List.length_append, hN, hr.len]))
  rw [hN] at HBACK
  have HR := Lib.hid (treeB_rng l)
  have HR2 := Lib.hid (show ∀ z ∈ treeB l ++ rs, 0 ≤ z ∧ z ≤ 255 from fun z hz => by
    rcases List.mem_append.1 hz with hz | hz
    · exact treeB_rng l z hz
    · exact hr.rng z hz)
  have HN := Lib.hid hN
  clear h ht hN hr hnone
  go_enter Tryd.func6, Tryd.ntmps6
  go_wp2_with (go_at_call 20; refine HC.out.mono ?_; rintro e w1 ⟨g, c, rfl, ho, hb⟩)
  have HI := Lib.hid (tree_items ho)
  have HB1 := Lib.hid hb
  clear ho hb
  refine (encode_good (treeL l) _ w1 HI.out (HT.out.later HB1.out) (tree_valid l)).mono ?_
  rintro e w2 ⟨v2, rfl, ho2, hb2'⟩
  rw [show (encAll (treeL l)).length = N from HN.out] at ho2
  obtain ⟨A2, c2, hv2, hby, hle, hcm⟩ := own_row_bys ho2 HR.out
  subst hv2
  have HBY := Lib.hid hby
  have HB12 := Lib.hid hb2'
  have HB2 := Lib.hid (HB1.out.trans (hb2'.mono HB1.out.size))
  have hs2 := HB2.out.size
  clear ho2 hb2' hby
  have hA2 : A2 = none → N = 0 ∧ c2 = 0 := by
    intro e
    obtain ⟨a, e2, _⟩ := HBY.out.at_ 0 (by omega)
    rw [e] at e2; cases e2
  have HA2 := Lib.hid hA2
  clear hA2
  go_wp2_with (first
    | (at_builtin; (refine app_bytes rfl _ _ rfl w2.heap.size _ 0 [] A2 N c2 (treeB l) (World.ownsRow_nil _ _ _ _) rfl HBY.out HA2.out rfl (by omega) (Nat.le_refl _) ?_); intro v3 w3 ho3 hb3; have HO3 := Lib.hid ho3; have HB3 := Lib.hid hb3; have hs3 := hb3.size; clear ho3 hb3)
    | (at_builtin; (refine app_bytes rfl _ _ rfl w2.heap.size _ (0 + N) ([] ++ treeB l) R M rc rs HO3.out rfl (HBR.out.below (HB2.out.trans (HB3.out.mono hs2))) HNO.out rfl (by omega) hs3 ?_); intro v4 w4 ho4 hb4)
    | fail)
  rw [Nat.zero_add, List.nil_append] at ho4
  obtain ⟨A4, c4, hv4, hby4, hle4, hcm4⟩ := own_row_bys ho4 HR2.out
  subst hv4
  have HB24 := Lib.hid (HB3.out.trans hb4)
  have HB4 := Lib.hid (HB2.out.trans (HB24.out.mono hs2))
  have hs4 := HB24.out.size
  have hD := decode_any A4 (N + M) c4 (treeB l ++ rs) w4 hby4 hle4 hcm4 (by omega) (HT.out.later HB4.out)
  unfold DecP at hD
  rw [HBACK.out] at hD
  dsimp only at hD
  clear ho4 hb4 hby4
  refine hD.mono ?_
  rintro e w5 ⟨v5, rfl, ho5, hb5, _, _, _⟩
  have hI5 := items_own ho5 (fun x hx => ⟨(treeL_fine l x hx).1, Nat.le_trans (treeL_fine l x hx).2 (by decide)⟩) (Nat.le_trans (treeL_len l) (by decide))
  have HI5 := Lib.hid hI5
  have HB15 := Lib.hid ((HB12.out.trans (HB24.out.mono HB12.out.size)).trans (hb5.mono (Nat.le_trans HB12.out.size hs4)))
  have HI1 := Lib.hid (HI.out.below HB15.out)
  have HB5 := Lib.hid (HB1.out.trans (HB15.out.mono HB1.out.size))
  have HBK := Lib.hid (fun k : Nat => (HB5.out.trans ⟨rfl, rfl, rfl, Nat.le_refl _, fun _ _ => rfl⟩ : Below w.heap.size w (w5.drewN k)))
  clear hD ho5 hb5 hI5
  go_wp2_with (first
    | (go_at_call 24; refine (same_any _ _ _ _ (treeL l) _ HI1.out HI5.out).mono ?_; rintro e w6 ⟨rfl, k, rfl⟩)
    | (go_at_call 15; refine (awake_any _ (HT.out.later (HBK.out k))).mono ?_; rintro e w7 ⟨rfl, hb7⟩)
    | fail)
  go_ret
  exact ⟨rfl, (HBK.out k).trans (hb7.mono HB5.out.size)⟩
end Go.Proofs.YtepinmeidjlmmaaDoor

/- A []byte argument, opened: nil or a row. -/
namespace Go.Proofs.YtepinmeidjlmmaaDoor
open Go.ChangeShapes Go.WideShapes Go.ChangeAt Go.RowKit
set_option maxRecDepth 100000

theorem open_row {H : Type} {enc : TypeId × Value → H} {W : World} {b0 base : Nat} {r : Reach} {v : Value} {d : DataW H} {ps : List MemPlace} (hval : Value.okWide Tryd.prog W r b0 25 v) (hd : DataW.Trod enc Tryd.prog W base (fun _ => true) true 25 v d ps) :
    ∃ (A : Option Addr) (n cap : Nat) (zs : List Int), v = .slice A n cap ∧ Bys W A n zs ∧ (A = none → n = 0 ∧ cap = 0) ∧ (n ≤ cap ∨ A = none) := by
  obtain ⟨a, len, cap, zs, hv, hl, hr, _, _, hrow⟩ := open_bytes hval hd
  rcases hrow with ⟨rfl, rfl, rfl⟩ | ⟨b, rfl, hle, hc⟩
  · exact ⟨none, 0, 0, zs, hv, ⟨hl, hr, fun i hi => absurd hi (by omega)⟩, fun _ => ⟨rfl, rfl⟩, .inr rfl⟩
  · exact ⟨some b, len, cap, zs, hv, ⟨hl, hr, fun i hi => ⟨b, rfl, hc i hi⟩⟩, (fun h => by cases h), .inl hle⟩
theorem back_any (A R : Option Addr) (n cap M rc : Nat) (l rs : List Int) (w : World) (h : Ints w A n l) (hn : n ≤ 9223372036854775807) (hr : Bys w R M rs) (hnone : R = none → M = 0 ∧ rc = 0) (ht : Tabs w) :
    Calls Tryd.prog 6 #[.slice A n cap, .slice R M rc] w fun e w' => e = .returned (.bool true) ∧ Below w.heap.size w w' := by
  by_cases hM : 300 < M
  · exact back_dark A R n cap M rc w hM ht
  · exact back_law A R n cap M rc l rs w h hn hr hnone (by omega) ht
end Go.Proofs.YtepinmeidjlmmaaDoor
