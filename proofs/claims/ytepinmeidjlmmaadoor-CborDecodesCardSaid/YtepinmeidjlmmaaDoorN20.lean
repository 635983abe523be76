/- Joined: ZF, ZG, ZH, ZI, ZJ. -/
import Derived.Test.YtepinmeidjlmmaaDoorN18
import Derived.Test.YtepinmeidjlmmaaDoorN19
import Derived.Test.YtepinmeidjlmmaaDoorN17
import Derived.Test.YtepinmeidjlmmaaDoorN11
import Derived.Test.YtepinmeidjlmmaaDoorN14
import Derived.Laws.OwnMore
import Derived.Test.YtepinmeidjlmmaaDoorN13
/- The reference's reader: an item, all outcomes but arrays and maps. -/
namespace Go.Proofs.YtepinmeidjlmmaaDoor
open Go.RowKit
set_option maxRecDepth 100000

theorem ext_str (S : ByteArray) (a n : Nat) : strOfNums (((dataI S).drop a).take n) = S.extract a (a + n) := by
  apply ByteArray.ext
  apply Array.ext'
  rw [strOfNums_data, ByteArray.data_extract, Array.toList_extract, List.extract_eq_take_drop, ← bytesOf_data S]
  have e : a + n - a = n := by omega
  rw [e]
  show List.map _ _ = List.take n (List.drop a (List.map _ _))
  rw [← List.map_drop, ← List.map_take]

def answer (a : Nat) (xs : List It) (er : Int) (x : It) (a3 : Nat) : Int × Nat × List It := if er = 0 then (0, a3, xs ++ [x]) else (er, a, xs)
theorem answer_ok (a : Nat) (xs : List It) (x : It) (a3 : Nat) : answer a xs 0 x a3 = (0, a3, xs ++ [x]) := if_pos rfl
theorem answer_bad (a : Nat) (xs : List It) {er : Int} (x : It) (a3 : Nat) (h : er ≠ 0) : answer a xs er x a3 = (er, a, xs) := if_neg h
theorem triple {α β γ : Type} {a a' : α} {b b' : β} {c c' : γ} (h : (a, b, c) = (a', b', c')) : a = a' ∧ b = b' ∧ c = c' := by simpa using h
theorem content_f (bf : ByteArray) (k n : Int) (d : ByteArray) (h : ¬ (k = 4 ∧ Lib.validD d.data.toList = false)) : contentRE false bf k n d = 0 := by unfold contentRE; rw [if_neg h, if_neg (by simp)]
theorem content_e {bf : ByteArray} (k n : Int) (d : ByteArray) (h : ¬ (k = 4 ∧ Lib.validD d.data.toList = false)) (hb : bf.toList.isEmpty = true) : contentRE true bf k n d = 0 := by unfold contentRE; rw [if_neg h, if_neg (by simp [hb])]
theorem content_l {bf : ByteArray} (k n : Int) (d : ByteArray) (h : ¬ (k = 4 ∧ Lib.validD d.data.toList = false)) (hl : lessB bf (bytesS k n d) = true) : contentRE true bf k n d = 0 := by unfold contentRE; rw [if_neg h, if_neg (by simp [hl])]
theorem content_g {bf : ByteArray} (k n : Int) (d : ByteArray) (h : ¬ (k = 4 ∧ Lib.validD d.data.toList = false)) (hb : bf.toList.isEmpty = false) (hl : lessB bf (bytesS k n d) = false) : contentRE true bf k n d = 7 := by unfold contentRE; rw [if_neg h, if_pos ⟨rfl, hb, hl⟩]
theorem content_6 (key : Bool) (bf : ByteArray) (n : Int) (d : ByteArray) (h : Lib.validD d.data.toList = false) : contentRE key bf 4 n d = 6 := by unfold contentRE; rw [if_pos ⟨rfl, h⟩]

theorem lk1false (p : Nat) (S : ByteArray) (a : Nat) (v : Value) (xs : List It) (w : World) (h : Rw w p S a v xs) (hs : S.size ≤ 9000000000000000) (dep : Nat) (bf : ByteArray) (n a2 : Nat) (hh : headE (dataI S) S.size a = (1, (n : Int), 0, a2)) (_ : a2 ≤ S.size) (hat : ¬ 512 ≤ xs.length) {er : Int} {x : It} {a3 : Nat}
    (hi : bodyRE (dataI S) S.size xs.length dep false bf a (1, (n : Int), 0, a2) = (er, x, a3)) :
    Calls Tryd.prog 45 #[.pointer (some ⟨p, 0, none⟩), .int .i64 dep, .bool false, .string bf] w (ItP p S v (answer a xs er x a3) w) := by
  unfold bodyRE at hi
  dsimp only at hi
  rw [if_neg (show ¬ (0 : Int) ≠ 0 from fun h => h rfl), if_neg hat] at hi
  rw [if_neg (by simp [canKeyB])] at hi
  by_cases h4 : 8 < dep
  · rw [if_pos h4] at hi
    obtain ⟨rfl, rfl, rfl⟩ := triple hi
    rw [answer_bad _ _ _ _ (by decide)]
    exact ir1false_dep p S a v xs w h hs dep bf n a2 hh (by omega) h4
  rw [if_neg h4] at hi
  rw [if_neg (by simp [tooLargeB, tooManyB, hasDataB])] at hi
  rw [if_neg (by decide)] at hi
  rw [content_f _ _ _ _ (by simp), if_neg (by simp)] at hi
  obtain ⟨rfl, rfl, rfl⟩ := triple hi
  rw [answer_ok]
  exact ir1false_ok p S a v xs w h hs dep bf n a2 hh (by omega) (by omega)

theorem lk1true (p : Nat) (S : ByteArray) (a : Nat) (v : Value) (xs : List It) (w : World) (h : Rw w p S a v xs) (hs : S.size ≤ 9000000000000000) (dep : Nat) (bf : ByteArray) (n a2 : Nat) (hh : headE (dataI S) S.size a = (1, (n : Int), 0, a2)) (_ : a2 ≤ S.size) (hat : ¬ 512 ≤ xs.length) {er : Int} {x : It} {a3 : Nat}
    (hi : bodyRE (dataI S) S.size xs.length dep true bf a (1, (n : Int), 0, a2) = (er, x, a3)) :
    Calls Tryd.prog 45 #[.pointer (some ⟨p, 0, none⟩), .int .i64 dep, .bool true, .string bf] w (ItP p S v (answer a xs er x a3) w) := by
  unfold bodyRE at hi
  dsimp only at hi
  rw [if_neg (show ¬ (0 : Int) ≠ 0 from fun h => h rfl), if_neg hat] at hi
  rw [if_neg (by simp [canKeyB])] at hi
  by_cases h4 : 8 < dep
  · rw [if_pos h4] at hi
    obtain ⟨rfl, rfl, rfl⟩ := triple hi
    rw [answer_bad _ _ _ _ (by decide)]
    exact ir1true_dep p S a v xs w h hs dep bf n a2 hh (by omega) h4
  rw [if_neg h4] at hi
  rw [if_neg (by simp [tooLargeB, tooManyB, hasDataB])] at hi
  rw [if_neg (by decide)] at hi
  cases hbe : bf.toList.isEmpty with
  | true =>
    rw [content_e _ _ _ (by simp) hbe, if_neg (by simp)] at hi
    obtain ⟨rfl, rfl, rfl⟩ := triple hi
    rw [answer_ok]
    exact ir1true_ok_e p S a v xs w h hs dep bf n a2 hh (by omega) (by omega) hbe
  | false =>
    cases hl : lessB bf (bytesS 1 (n : Int) ⟨#[]⟩) with
    | true =>
      rw [content_l _ _ _ (by simp) hl, if_neg (by simp)] at hi
      obtain ⟨rfl, rfl, rfl⟩ := triple hi
      rw [answer_ok]
      exact ir1true_ok_l p S a v xs w h hs dep bf n a2 hh (by omega) (by omega) hbe hl
    | false =>
      rw [content_g _ _ _ (by simp) hbe hl, if_pos (by decide)] at hi
      obtain ⟨rfl, rfl, rfl⟩ := triple hi
      rw [answer_bad _ _ _ _ (by decide)]
      exact ir1true_order p S a v xs w h hs dep bf n a2 hh (by omega) (by omega) hbe hl

theorem lk2false (p : Nat) (S : ByteArray) (a : Nat) (v : Value) (xs : List It) (w : World) (h : Rw w p S a v xs) (hs : S.size ≤ 9000000000000000) (dep : Nat) (bf : ByteArray) (n a2 : Nat) (hh : headE (dataI S) S.size a = (2, (n : Int), 0, a2)) (_ : a2 ≤ S.size) (hat : ¬ 512 ≤ xs.length) {er : Int} {x : It} {a3 : Nat}
    (hi : bodyRE (dataI S) S.size xs.length dep false bf a (2, (n : Int), 0, a2) = (er, x, a3)) :
    Calls Tryd.prog 45 #[.pointer (some ⟨p, 0, none⟩), .int .i64 dep, .bool false, .string bf] w (ItP p S v (answer a xs er x a3) w) := by
  unfold bodyRE at hi
  dsimp only at hi
  rw [if_neg (show ¬ (0 : Int) ≠ 0 from fun h => h rfl), if_neg hat] at hi
  rw [if_neg (by simp [canKeyB])] at hi
  by_cases h4 : 8 < dep
  · rw [if_pos h4] at hi
    obtain ⟨rfl, rfl, rfl⟩ := triple hi
    rw [answer_bad _ _ _ _ (by decide)]
    exact ir2false_dep p S a v xs w h hs dep bf n a2 hh (by omega) h4
  rw [if_neg h4] at hi
  rw [if_neg (by simp [tooLargeB, tooManyB, hasDataB])] at hi
  rw [if_neg (by decide)] at hi
  rw [content_f _ _ _ _ (by simp), if_neg (by simp)] at hi
  obtain ⟨rfl, rfl, rfl⟩ := triple hi
  rw [answer_ok]
  exact ir2false_ok p S a v xs w h hs dep bf n a2 hh (by omega) (by omega)

theorem lk2true (p : Nat) (S : ByteArray) (a : Nat) (v : Value) (xs : List It) (w : World) (h : Rw w p S a v xs) (hs : S.size ≤ 9000000000000000) (dep : Nat) (bf : ByteArray) (n a2 : Nat) (hh : headE (dataI S) S.size a = (2, (n : Int), 0, a2)) (_ : a2 ≤ S.size) (hat : ¬ 512 ≤ xs.length) {er : Int} {x : It} {a3 : Nat}
    (hi : bodyRE (dataI S) S.size xs.length dep true bf a (2, (n : Int), 0, a2) = (er, x, a3)) :
    Calls Tryd.prog 45 #[.pointer (some ⟨p, 0, none⟩), .int .i64 dep, .bool true, .string bf] w (ItP p S v (answer a xs er x a3) w) := by
  unfold bodyRE at hi
  dsimp only at hi
  rw [if_neg (show ¬ (0 : Int) ≠ 0 from fun h => h rfl), if_neg hat] at hi
  rw [if_neg (by simp [canKeyB])] at hi
  by_cases h4 : 8 < dep
  · rw [if_pos h4] at hi
    obtain ⟨rfl, rfl, rfl⟩ := triple hi
    rw [answer_bad _ _ _ _ (by decide)]
    exact ir2true_dep p S a v xs w h hs dep bf n a2 hh (by omega) h4
  rw [if_neg h4] at hi
  rw [if_neg (by simp [tooLargeB, tooManyB, hasDataB])] at hi
  rw [if_neg (by decide)] at hi
  cases hbe : bf.toList.isEmpty with
  | true =>
    rw [content_e _ _ _ (by simp) hbe, if_neg (by simp)] at hi
    obtain ⟨rfl, rfl, rfl⟩ := triple hi
    rw [answer_ok]
    exact ir2true_ok_e p S a v xs w h hs dep bf n a2 hh (by omega) (by omega) hbe
  | false =>
    cases hl : lessB bf (bytesS 2 (n : Int) ⟨#[]⟩) with
    | true =>
      rw [content_l _ _ _ (by simp) hl, if_neg (by simp)] at hi
      obtain ⟨rfl, rfl, rfl⟩ := triple hi
      rw [answer_ok]
      exact ir2true_ok_l p S a v xs w h hs dep bf n a2 hh (by omega) (by omega) hbe hl
    | false =>
      rw [content_g _ _ _ (by simp) hbe hl, if_pos (by decide)] at hi
      obtain ⟨rfl, rfl, rfl⟩ := triple hi
      rw [answer_bad _ _ _ _ (by decide)]
      exact ir2true_order p S a v xs w h hs dep bf n a2 hh (by omega) (by omega) hbe hl

theorem lk3false (p : Nat) (S : ByteArray) (a : Nat) (v : Value) (xs : List It) (w : World) (h : Rw w p S a v xs) (hs : S.size ≤ 9000000000000000) (dep : Nat) (bf : ByteArray) (n a2 : Nat) (hh : headE (dataI S) S.size a = (3, (n : Int), 0, a2)) (ha : a2 ≤ S.size) (hat : ¬ 512 ≤ xs.length) {er : Int} {x : It} {a3 : Nat}
    (hi : bodyRE (dataI S) S.size xs.length dep false bf a (3, (n : Int), 0, a2) = (er, x, a3)) :
    Calls Tryd.prog 45 #[.pointer (some ⟨p, 0, none⟩), .int .i64 dep, .bool false, .string bf] w (ItP p S v (answer a xs er x a3) w) := by
  unfold bodyRE at hi
  dsimp only at hi
  rw [if_neg (show ¬ (0 : Int) ≠ 0 from fun h => h rfl), if_neg hat] at hi
  rw [if_neg (by simp [canKeyB])] at hi
  by_cases h4 : 8 < dep
  · rw [if_pos h4] at hi
    obtain ⟨rfl, rfl, rfl⟩ := triple hi
    rw [answer_bad _ _ _ _ (by decide)]
    exact ir3false_dep p S a v xs w h hs dep bf n a2 hh (by omega) h4
  rw [if_neg h4] at hi
  by_cases h5 : 1024 < n
  · rw [if_pos (by simp [tooLargeB, tooManyB, hasDataB]; omega)] at hi
    obtain ⟨rfl, rfl, rfl⟩ := triple hi
    rw [answer_bad _ _ _ _ (by decide)]
    exact ir3false_large p S a v xs w h hs dep bf n a2 hh (by omega) (by omega) h5
  rw [if_neg (by simp [tooLargeB, tooManyB, hasDataB]; omega)] at hi
  rw [if_pos (by decide)] at hi
  rw [Int.toNat_natCast, ext_str] at hi
  by_cases h6 : (S.size : Int) < (a2 : Int) + (n : Int)
  · rw [if_pos h6] at hi
    obtain ⟨rfl, rfl, rfl⟩ := triple hi
    rw [answer_bad _ _ _ _ (by decide)]
    exact ir3false_short p S a v xs w h hs dep bf n a2 hh (by omega) (by omega) (by omega) ha (by omega)
  rw [if_neg h6] at hi
  rw [content_f _ _ _ _ (by simp), if_neg (by simp)] at hi
  obtain ⟨rfl, rfl, rfl⟩ := triple hi
  rw [answer_ok]
  exact ir3false_ok p S a v xs w h hs dep bf n a2 hh (by omega) (by omega) (by omega) (by omega)

theorem lk3true (p : Nat) (S : ByteArray) (a : Nat) (v : Value) (xs : List It) (w : World) (h : Rw w p S a v xs) (hs : S.size ≤ 9000000000000000) (dep : Nat) (bf : ByteArray) (n a2 : Nat) (hh : headE (dataI S) S.size a = (3, (n : Int), 0, a2)) (_ : a2 ≤ S.size) (hat : ¬ 512 ≤ xs.length) {er : Int} {x : It} {a3 : Nat}
    (hi : bodyRE (dataI S) S.size xs.length dep true bf a (3, (n : Int), 0, a2) = (er, x, a3)) :
    Calls Tryd.prog 45 #[.pointer (some ⟨p, 0, none⟩), .int .i64 dep, .bool true, .string bf] w (ItP p S v (answer a xs er x a3) w) := by
  unfold bodyRE at hi
  dsimp only at hi
  rw [if_neg (show ¬ (0 : Int) ≠ 0 from fun h => h rfl), if_neg hat] at hi
  rw [if_pos ⟨rfl, by decide⟩] at hi
  obtain ⟨rfl, rfl, rfl⟩ := triple hi
  rw [answer_bad _ _ _ _ (by decide)]
  exact ir3true_kind p S a v xs w h hs dep bf n a2 hh (by omega)

theorem lk4false (p : Nat) (S : ByteArray) (a : Nat) (v : Value) (xs : List It) (w : World) (h : Rw w p S a v xs) (hs : S.size ≤ 9000000000000000) (dep : Nat) (bf : ByteArray) (n a2 : Nat) (hh : headE (dataI S) S.size a = (4, (n : Int), 0, a2)) (ha : a2 ≤ S.size) (hat : ¬ 512 ≤ xs.length) {er : Int} {x : It} {a3 : Nat}
    (hi : bodyRE (dataI S) S.size xs.length dep false bf a (4, (n : Int), 0, a2) = (er, x, a3)) :
    Calls Tryd.prog 45 #[.pointer (some ⟨p, 0, none⟩), .int .i64 dep, .bool false, .string bf] w (ItP p S v (answer a xs er x a3) w) := by
  unfold bodyRE at hi
  dsimp only at hi
  rw [if_neg (show ¬ (0 : Int) ≠ 0 from fun h => h rfl), if_neg hat] at hi
  rw [if_neg (by simp [canKeyB])] at hi
  by_cases h4 : 8 < dep
  · rw [if_pos h4] at hi
    obtain ⟨rfl, rfl, rfl⟩ := triple hi
    rw [answer_bad _ _ _ _ (by decide)]
    exact ir4false_dep p S a v xs w h hs dep bf n a2 hh (by omega) h4
  rw [if_neg h4] at hi
  by_cases h5 : 1024 < n
  · rw [if_pos (by simp [tooLargeB, tooManyB, hasDataB]; omega)] at hi
    obtain ⟨rfl, rfl, rfl⟩ := triple hi
    rw [answer_bad _ _ _ _ (by decide)]
    exact ir4false_large p S a v xs w h hs dep bf n a2 hh (by omega) (by omega) h5
  rw [if_neg (by simp [tooLargeB, tooManyB, hasDataB]; omega)] at hi
  rw [if_pos (by decide)] at hi
  rw [Int.toNat_natCast, ext_str] at hi
  by_cases h6 : (S.size : Int) < (a2 : Int) + (n : Int)
  · rw [if_pos h6] at hi
    obtain ⟨rfl, rfl, rfl⟩ := triple hi
    rw [answer_bad _ _ _ _ (by decide)]
    exact ir4false_short p S a v xs w h hs dep bf n a2 hh (by omega) (by omega) (by omega) ha (by omega)
  rw [if_neg h6] at hi
  by_cases hv : Lib.validD (S.extract a2 (a2 + n)).data.toList = false
  · rw [content_6 _ _ _ _ hv, if_pos (by decide)] at hi
    obtain ⟨rfl, rfl, rfl⟩ := triple hi
    rw [answer_bad _ _ _ _ (by decide)]
    exact ir4false_text p S a v xs w h hs dep bf n a2 hh (by omega) (by omega) (by omega) (by omega) hv
  have hv' : Lib.validD (S.extract a2 (a2 + n)).data.toList = true := by simpa using hv
  rw [content_f _ _ _ _ (fun h => hv h.2), if_neg (by simp)] at hi
  obtain ⟨rfl, rfl, rfl⟩ := triple hi
  rw [answer_ok]
  exact ir4false_ok p S a v xs w h hs dep bf n a2 hh (by omega) (by omega) (by omega) (by omega) hv'

theorem lk4true (p : Nat) (S : ByteArray) (a : Nat) (v : Value) (xs : List It) (w : World) (h : Rw w p S a v xs) (hs : S.size ≤ 9000000000000000) (dep : Nat) (bf : ByteArray) (n a2 : Nat) (hh : headE (dataI S) S.size a = (4, (n : Int), 0, a2)) (ha : a2 ≤ S.size) (hat : ¬ 512 ≤ xs.length) {er : Int} {x : It} {a3 : Nat}
    (hi : bodyRE (dataI S) S.size xs.length dep true bf a (4, (n : Int), 0, a2) = (er, x, a3)) :
    Calls Tryd.prog 45 #[.pointer (some ⟨p, 0, none⟩), .int .i64 dep, .bool true, .string bf] w (ItP p S v (answer a xs er x a3) w) := by
  unfold bodyRE at hi
  dsimp only at hi
  rw [if_neg (show ¬ (0 : Int) ≠ 0 from fun h => h rfl), if_neg hat] at hi
  rw [if_neg (by simp [canKeyB])] at hi
  by_cases h4 : 8 < dep
  · rw [if_pos h4] at hi
    obtain ⟨rfl, rfl, rfl⟩ := triple hi
    rw [answer_bad _ _ _ _ (by decide)]
    exact ir4true_dep p S a v xs w h hs dep bf n a2 hh (by omega) h4
  rw [if_neg h4] at hi
  by_cases h5 : 1024 < n
  · rw [if_pos (by simp [tooLargeB, tooManyB, hasDataB]; omega)] at hi
    obtain ⟨rfl, rfl, rfl⟩ := triple hi
    rw [answer_bad _ _ _ _ (by decide)]
    exact ir4true_large p S a v xs w h hs dep bf n a2 hh (by omega) (by omega) h5
  rw [if_neg (by simp [tooLargeB, tooManyB, hasDataB]; omega)] at hi
  rw [if_pos (by decide)] at hi
  rw [Int.toNat_natCast, ext_str] at hi
  by_cases h6 : (S.size : Int) < (a2 : Int) + (n : Int)
  · rw [if_pos h6] at hi
    obtain ⟨rfl, rfl, rfl⟩ := triple hi
    rw [answer_bad _ _ _ _ (by decide)]
    exact ir4true_short p S a v xs w h hs dep bf n a2 hh (by omega) (by omega) (by omega) ha (by omega)
  rw [if_neg h6] at hi
  by_cases hv : Lib.validD (S.extract a2 (a2 + n)).data.toList = false
  · rw [content_6 _ _ _ _ hv, if_pos (by decide)] at hi
    obtain ⟨rfl, rfl, rfl⟩ := triple hi
    rw [answer_bad _ _ _ _ (by decide)]
    exact ir4true_text p S a v xs w h hs dep bf n a2 hh (by omega) (by omega) (by omega) (by omega) hv
  have hv' : Lib.validD (S.extract a2 (a2 + n)).data.toList = true := by simpa using hv
  cases hbe : bf.toList.isEmpty with
  | true =>
    rw [content_e _ _ _ (fun h => hv h.2) hbe, if_neg (by simp)] at hi
    obtain ⟨rfl, rfl, rfl⟩ := triple hi
    rw [answer_ok]
    exact ir4true_ok_e p S a v xs w h hs dep bf n a2 hh (by omega) (by omega) (by omega) (by omega) hv' hbe
  | false =>
    cases hl : lessB bf (bytesS 4 0 (S.extract a2 (a2 + n))) with
    | true =>
      rw [content_l _ _ _ (fun h => hv h.2) hl, if_neg (by simp)] at hi
      obtain ⟨rfl, rfl, rfl⟩ := triple hi
      rw [answer_ok]
      exact ir4true_ok_l p S a v xs w h hs dep bf n a2 hh (by omega) (by omega) (by omega) (by omega) hv' hbe hl
    | false =>
      rw [content_g _ _ _ (fun h => hv h.2) hbe hl, if_pos (by decide)] at hi
      obtain ⟨rfl, rfl, rfl⟩ := triple hi
      rw [answer_bad _ _ _ _ (by decide)]
      exact ir4true_order p S a v xs w h hs dep bf n a2 hh (by omega) (by omega) (by omega) (by omega) hv' hbe hl

theorem lk5false (p : Nat) (S : ByteArray) (a : Nat) (v : Value) (xs : List It) (w : World) (h : Rw w p S a v xs) (hs : S.size ≤ 9000000000000000) (dep : Nat) (bf : ByteArray) (n a2 : Nat) (hh : headE (dataI S) S.size a = (5, (n : Int), 0, a2)) (_ : a2 ≤ S.size) (hat : ¬ 512 ≤ xs.length) {er : Int} {x : It} {a3 : Nat}
    (hi : bodyRE (dataI S) S.size xs.length dep false bf a (5, (n : Int), 0, a2) = (er, x, a3)) (hne : er = 0 → ¬ (x.k = 5 ∨ x.k = 6)) :
    Calls Tryd.prog 45 #[.pointer (some ⟨p, 0, none⟩), .int .i64 dep, .bool false, .string bf] w (ItP p S v (answer a xs er x a3) w) := by
  unfold bodyRE at hi
  dsimp only at hi
  rw [if_neg (show ¬ (0 : Int) ≠ 0 from fun h => h rfl), if_neg hat] at hi
  rw [if_neg (by simp [canKeyB])] at hi
  by_cases h4 : 8 < dep
  · rw [if_pos h4] at hi
    obtain ⟨rfl, rfl, rfl⟩ := triple hi
    rw [answer_bad _ _ _ _ (by decide)]
    exact ir5false_dep p S a v xs w h hs dep bf n a2 hh (by omega) h4
  rw [if_neg h4] at hi
  by_cases h5 : 512 < n
  · rw [if_pos (by simp [tooLargeB, tooManyB, hasDataB]; omega)] at hi
    obtain ⟨rfl, rfl, rfl⟩ := triple hi
    rw [answer_bad _ _ _ _ (by decide)]
    exact ir5false_large p S a v xs w h hs dep bf n a2 hh (by omega) (by omega) h5
  rw [if_neg (by simp [tooLargeB, tooManyB, hasDataB]; omega)] at hi
  rw [if_neg (by decide)] at hi
  rw [content_f _ _ _ _ (by simp), if_neg (by simp)] at hi
  obtain ⟨rfl, rfl, rfl⟩ := triple hi
  exact absurd (by simp) (hne rfl)

theorem lk5true (p : Nat) (S : ByteArray) (a : Nat) (v : Value) (xs : List It) (w : World) (h : Rw w p S a v xs) (hs : S.size ≤ 9000000000000000) (dep : Nat) (bf : ByteArray) (n a2 : Nat) (hh : headE (dataI S) S.size a = (5, (n : Int), 0, a2)) (_ : a2 ≤ S.size) (hat : ¬ 512 ≤ xs.length) {er : Int} {x : It} {a3 : Nat}
    (hi : bodyRE (dataI S) S.size xs.length dep true bf a (5, (n : Int), 0, a2) = (er, x, a3)) (hne : er = 0 → ¬ (x.k = 5 ∨ x.k = 6)) :
    Calls Tryd.prog 45 #[.pointer (some ⟨p, 0, none⟩), .int .i64 dep, .bool true, .string bf] w (ItP p S v (answer a xs er x a3) w) := by
  unfold bodyRE at hi
  dsimp only at hi
  rw [if_neg (show ¬ (0 : Int) ≠ 0 from fun h => h rfl), if_neg hat] at hi
  rw [if_pos ⟨rfl, by decide⟩] at hi
  obtain ⟨rfl, rfl, rfl⟩ := triple hi
  rw [answer_bad _ _ _ _ (by decide)]
  exact ir5true_kind p S a v xs w h hs dep bf n a2 hh (by omega)

theorem lk6false (p : Nat) (S : ByteArray) (a : Nat) (v : Value) (xs : List It) (w : World) (h : Rw w p S a v xs) (hs : S.size ≤ 9000000000000000) (dep : Nat) (bf : ByteArray) (n a2 : Nat) (hh : headE (dataI S) S.size a = (6, (n : Int), 0, a2)) (_ : a2 ≤ S.size) (hat : ¬ 512 ≤ xs.length) {er : Int} {x : It} {a3 : Nat}
    (hi : bodyRE (dataI S) S.size xs.length dep false bf a (6, (n : Int), 0, a2) = (er, x, a3)) (hne : er = 0 → ¬ (x.k = 5 ∨ x.k = 6)) :
    Calls Tryd.prog 45 #[.pointer (some ⟨p, 0, none⟩), .int .i64 dep, .bool false, .string bf] w (ItP p S v (answer a xs er x a3) w) := by
  unfold bodyRE at hi
  dsimp only at hi
  rw [if_neg (show ¬ (0 : Int) ≠ 0 from fun h => h rfl), if_neg hat] at hi
  rw [if_neg (by simp [canKeyB])] at hi
  by_cases h4 : 8 < dep
  · rw [if_pos h4] at hi
    obtain ⟨rfl, rfl, rfl⟩ := triple hi
    rw [answer_bad _ _ _ _ (by decide)]
    exact ir6false_dep p S a v xs w h hs dep bf n a2 hh (by omega) h4
  rw [if_neg h4] at hi
  by_cases h5 : 512 < n
  · rw [if_pos (by simp [tooLargeB, tooManyB, hasDataB]; omega)] at hi
    obtain ⟨rfl, rfl, rfl⟩ := triple hi
    rw [answer_bad _ _ _ _ (by decide)]
    exact ir6false_large p S a v xs w h hs dep bf n a2 hh (by omega) (by omega) h5
  rw [if_neg (by simp [tooLargeB, tooManyB, hasDataB]; omega)] at hi
  rw [if_neg (by decide)] at hi
  rw [content_f _ _ _ _ (by simp), if_neg (by simp)] at hi
  obtain ⟨rfl, rfl, rfl⟩ := triple hi
  exact absurd (by simp) (hne rfl)

theorem lk6true (p : Nat) (S : ByteArray) (a : Nat) (v : Value) (xs : List It) (w : World) (h : Rw w p S a v xs) (hs : S.size ≤ 9000000000000000) (dep : Nat) (bf : ByteArray) (n a2 : Nat) (hh : headE (dataI S) S.size a = (6, (n : Int), 0, a2)) (_ : a2 ≤ S.size) (hat : ¬ 512 ≤ xs.length) {er : Int} {x : It} {a3 : Nat}
    (hi : bodyRE (dataI S) S.size xs.length dep true bf a (6, (n : Int), 0, a2) = (er, x, a3)) (hne : er = 0 → ¬ (x.k = 5 ∨ x.k = 6)) :
    Calls Tryd.prog 45 #[.pointer (some ⟨p, 0, none⟩), .int .i64 dep, .bool true, .string bf] w (ItP p S v (answer a xs er x a3) w) := by
  unfold bodyRE at hi
  dsimp only at hi
  rw [if_neg (show ¬ (0 : Int) ≠ 0 from fun h => h rfl), if_neg hat] at hi
  rw [if_pos ⟨rfl, by decide⟩] at hi
  obtain ⟨rfl, rfl, rfl⟩ := triple hi
  rw [answer_bad _ _ _ _ (by decide)]
  exact ir6true_kind p S a v xs w h hs dep bf n a2 hh (by omega)

theorem lk7false (p : Nat) (S : ByteArray) (a : Nat) (v : Value) (xs : List It) (w : World) (h : Rw w p S a v xs) (hs : S.size ≤ 9000000000000000) (dep : Nat) (bf : ByteArray) (n a2 : Nat) (hh : headE (dataI S) S.size a = (7, (n : Int), 0, a2)) (_ : a2 ≤ S.size) (hat : ¬ 512 ≤ xs.length) {er : Int} {x : It} {a3 : Nat}
    (hi : bodyRE (dataI S) S.size xs.length dep false bf a (7, (n : Int), 0, a2) = (er, x, a3)) :
    Calls Tryd.prog 45 #[.pointer (some ⟨p, 0, none⟩), .int .i64 dep, .bool false, .string bf] w (ItP p S v (answer a xs er x a3) w) := by
  unfold bodyRE at hi
  dsimp only at hi
  rw [if_neg (show ¬ (0 : Int) ≠ 0 from fun h => h rfl), if_neg hat] at hi
  rw [if_neg (by simp [canKeyB])] at hi
  by_cases h4 : 8 < dep
  · rw [if_pos h4] at hi
    obtain ⟨rfl, rfl, rfl⟩ := triple hi
    rw [answer_bad _ _ _ _ (by decide)]
    exact ir7false_dep p S a v xs w h hs dep bf n a2 hh (by omega) h4
  rw [if_neg h4] at hi
  rw [if_neg (by simp [tooLargeB, tooManyB, hasDataB])] at hi
  rw [if_neg (by decide)] at hi
  rw [content_f _ _ _ _ (by simp), if_neg (by simp)] at hi
  obtain ⟨rfl, rfl, rfl⟩ := triple hi
  rw [answer_ok]
  exact ir7false_ok p S a v xs w h hs dep bf n a2 hh (by omega) (by omega)

theorem lk7true (p : Nat) (S : ByteArray) (a : Nat) (v : Value) (xs : List It) (w : World) (h : Rw w p S a v xs) (hs : S.size ≤ 9000000000000000) (dep : Nat) (bf : ByteArray) (n a2 : Nat) (hh : headE (dataI S) S.size a = (7, (n : Int), 0, a2)) (_ : a2 ≤ S.size) (hat : ¬ 512 ≤ xs.length) {er : Int} {x : It} {a3 : Nat}
    (hi : bodyRE (dataI S) S.size xs.length dep true bf a (7, (n : Int), 0, a2) = (er, x, a3)) :
    Calls Tryd.prog 45 #[.pointer (some ⟨p, 0, none⟩), .int .i64 dep, .bool true, .string bf] w (ItP p S v (answer a xs er x a3) w) := by
  unfold bodyRE at hi
  dsimp only at hi
  rw [if_neg (show ¬ (0 : Int) ≠ 0 from fun h => h rfl), if_neg hat] at hi
  rw [if_pos ⟨rfl, by decide⟩] at hi
  obtain ⟨rfl, rfl, rfl⟩ := triple hi
  rw [answer_bad _ _ _ _ (by decide)]
  exact ir7true_kind p S a v xs w h hs dep bf n a2 hh (by omega)

theorem lk8false (p : Nat) (S : ByteArray) (a : Nat) (v : Value) (xs : List It) (w : World) (h : Rw w p S a v xs) (hs : S.size ≤ 9000000000000000) (dep : Nat) (bf : ByteArray) (n a2 : Nat) (hh : headE (dataI S) S.size a = (8, (n : Int), 0, a2)) (_ : a2 ≤ S.size) (hat : ¬ 512 ≤ xs.length) {er : Int} {x : It} {a3 : Nat}
    (hi : bodyRE (dataI S) S.size xs.length dep false bf a (8, (n : Int), 0, a2) = (er, x, a3)) :
    Calls Tryd.prog 45 #[.pointer (some ⟨p, 0, none⟩), .int .i64 dep, .bool false, .string bf] w (ItP p S v (answer a xs er x a3) w) := by
  unfold bodyRE at hi
  dsimp only at hi
  rw [if_neg (show ¬ (0 : Int) ≠ 0 from fun h => h rfl), if_neg hat] at hi
  rw [if_neg (by simp [canKeyB])] at hi
  by_cases h4 : 8 < dep
  · rw [if_pos h4] at hi
    obtain ⟨rfl, rfl, rfl⟩ := triple hi
    rw [answer_bad _ _ _ _ (by decide)]
    exact ir8false_dep p S a v xs w h hs dep bf n a2 hh (by omega) h4
  rw [if_neg h4] at hi
  rw [if_neg (by simp [tooLargeB, tooManyB, hasDataB])] at hi
  rw [if_neg (by decide)] at hi
  rw [content_f _ _ _ _ (by simp), if_neg (by simp)] at hi
  obtain ⟨rfl, rfl, rfl⟩ := triple hi
  rw [answer_ok]
  exact ir8false_ok p S a v xs w h hs dep bf n a2 hh (by omega) (by omega)

theorem lk8true (p : Nat) (S : ByteArray) (a : Nat) (v : Value) (xs : List It) (w : World) (h : Rw w p S a v xs) (hs : S.size ≤ 9000000000000000) (dep : Nat) (bf : ByteArray) (n a2 : Nat) (hh : headE (dataI S) S.size a = (8, (n : Int), 0, a2)) (_ : a2 ≤ S.size) (hat : ¬ 512 ≤ xs.length) {er : Int} {x : It} {a3 : Nat}
    (hi : bodyRE (dataI S) S.size xs.length dep true bf a (8, (n : Int), 0, a2) = (er, x, a3)) :
    Calls Tryd.prog 45 #[.pointer (some ⟨p, 0, none⟩), .int .i64 dep, .bool true, .string bf] w (ItP p S v (answer a xs er x a3) w) := by
  unfold bodyRE at hi
  dsimp only at hi
  rw [if_neg (show ¬ (0 : Int) ≠ 0 from fun h => h rfl), if_neg hat] at hi
  rw [if_pos ⟨rfl, by decide⟩] at hi
  obtain ⟨rfl, rfl, rfl⟩ := triple hi
  rw [answer_bad _ _ _ _ (by decide)]
  exact ir8true_kind p S a v xs w h hs dep bf n a2 hh (by omega)

theorem rleaf_any (p : Nat) (S : ByteArray) (a : Nat) (v : Value) (xs : List It) (w : World) (h : Rw w p S a v xs) (hs : S.size ≤ 9000000000000000) (dep : Nat) (key : Bool) (bf : ByteArray) {er : Int} {x : It} {a3 : Nat}
    (hi : itemRE (dataI S) S.size xs.length dep key bf a = (er, x, a3)) (hne : er = 0 → ¬ (x.k = 5 ∨ x.k = 6)) :
    Calls Tryd.prog 45 #[.pointer (some ⟨p, 0, none⟩), .int .i64 dep, .bool key, .string bf] w (ItP p S v (answer a xs er x a3) w) := by
  unfold itemRE at hi
  obtain ⟨k, n, e, a2, hh⟩ : ∃ k n e a2, headE (dataI S) S.size a = (k, n, e, a2) := ⟨_, _, _, _, rfl⟩
  rw [hh] at hi
  by_cases he : e = 0
  · subst he
    obtain ⟨k1, k8, n0, _, _, _, _, hle⟩ := head_ok (fun z hz => dataI_rng S z hz) (dataI_len S) hh
    obtain ⟨n, rfl⟩ := Int.eq_ofNat_of_zero_le n0
    by_cases hat : 512 ≤ xs.length
    · unfold bodyRE at hi
      dsimp only at hi
      rw [if_neg (show ¬ (0 : Int) ≠ 0 from fun h => h rfl), if_pos hat] at hi
      obtain ⟨rfl, rfl, rfl⟩ := triple hi
      rw [answer_bad _ _ _ _ (by decide)]
      exact it_512 p S a v xs w h hs dep key bf _ _ _ hh hat
    have hk : k = 1 ∨ k = 2 ∨ k = 3 ∨ k = 4 ∨ k = 5 ∨ k = 6 ∨ k = 7 ∨ k = 8 := by omega
    rcases hk with rfl | rfl | rfl | rfl | rfl | rfl | rfl | rfl <;> cases key
    · exact lk1false p S a v xs w h hs dep bf n a2 hh hle hat hi
    · exact lk1true p S a v xs w h hs dep bf n a2 hh hle hat hi
    · exact lk2false p S a v xs w h hs dep bf n a2 hh hle hat hi
    · exact lk2true p S a v xs w h hs dep bf n a2 hh hle hat hi
    · exact lk3false p S a v xs w h hs dep bf n a2 hh hle hat hi
    · exact lk3true p S a v xs w h hs dep bf n a2 hh hle hat hi
    · exact lk4false p S a v xs w h hs dep bf n a2 hh hle hat hi
    · exact lk4true p S a v xs w h hs dep bf n a2 hh hle hat hi
    · exact lk5false p S a v xs w h hs dep bf n a2 hh hle hat hi hne
    · exact lk5true p S a v xs w h hs dep bf n a2 hh hle hat hi hne
    · exact lk6false p S a v xs w h hs dep bf n a2 hh hle hat hi hne
    · exact lk6true p S a v xs w h hs dep bf n a2 hh hle hat hi hne
    · exact lk7false p S a v xs w h hs dep bf n a2 hh hle hat hi
    · exact lk7true p S a v xs w h hs dep bf n a2 hh hle hat hi
    · exact lk8false p S a v xs w h hs dep bf n a2 hh hle hat hi
    · exact lk8true p S a v xs w h hs dep bf n a2 hh hle hat hi
  · unfold bodyRE at hi
    dsimp only at hi
    rw [if_pos he] at hi
    obtain ⟨rfl, rfl, rfl⟩ := triple hi
    rw [answer_bad _ _ _ _ he]
    exact it_head p S a v xs w h hs dep key bf _ _ _ _ hh he
end Go.Proofs.YtepinmeidjlmmaaDoor

/- The reference's Decode, over any bytes. -/
namespace Go.Proofs.YtepinmeidjlmmaaDoor
open Go.RowKit
set_option maxRecDepth 100000

theorem itemR_fine {zs : List Int} {N c dep a : Nat} {key : Bool} {bf : ByteArray} {x : It} {a3 : Nat} (hz : ∀ z ∈ zs, 0 ≤ z ∧ z ≤ 255) (hzl : zs.length = N) (h : itemRE zs N c dep key bf a = (0, x, a3)) :
    1 ≤ x.k ∧ x.k ≤ 8 ∧ 0 ≤ x.n ∧ (x.k = 7 → x.n ≤ 1) ∧ x.d.size ≤ 1100 ∧ ((x.k = 5 ∨ x.k = 6) → headE zs N a = (x.k, x.n, 0, a3) ∧ x.d = ⟨#[]⟩ ∧ x.n ≤ 512) := by
  unfold itemRE at h
  obtain ⟨k, n, er, a2, hh⟩ : ∃ k n er a2, headE zs N a = (k, n, er, a2) := ⟨_, _, _, _, rfl⟩
  rw [hh] at h ⊢
  unfold bodyRE at h
  dsimp only at h
  by_cases he : er = 0
  · subst he
    obtain ⟨k1, k8, n0, _, h7, _, _, _⟩ := head_ok hz hzl hh
    rw [if_neg (by simp)] at h
    by_cases h1 : 512 ≤ c
    · rw [if_pos h1] at h; simp at h
    rw [if_neg h1] at h
    by_cases h3 : key = true ∧ canKeyB k = false
    · rw [if_pos h3] at h; simp at h
    rw [if_neg h3] at h
    by_cases h4 : 8 < dep
    · rw [if_pos h4] at h; simp at h
    rw [if_neg h4] at h
    by_cases h5 : tooLargeB k n = true
    · rw [if_pos h5] at h; simp at h
    rw [if_neg h5] at h
    have h5' : tooLargeB k n = false := by simpa using h5
    by_cases hD : hasDataB k = true
    · rw [if_pos hD] at h
      have hn := data_le h5' hD
      have hk : k = 3 ∨ k = 4 := by simpa [hasDataB] using hD
      by_cases h6 : (N : Int) < (a2 : Int) + n
      · rw [if_pos h6] at h; simp at h
      rw [if_neg h6] at h
      by_cases h7' : contentRE key bf k 0 (strOfNums ((zs.drop a2).take n.toNat)) = 0
      · rw [if_neg (by simp [h7'])] at h
        simp only [Prod.mk.injEq, true_and] at h
        obtain ⟨rfl, rfl⟩ := h
        refine ⟨k1, k8, Int.le_refl _, fun _ => (by decide : (0 : Int) ≤ 1), ?_, fun hk2 => by simp only at hk2; omega⟩
        have hsz : (strOfNums ((zs.drop a2).take n.toNat)).data.toList.length ≤ n.toNat := by
          rw [strOfNums_data]
          simp [Nat.min_le_left]
        have : (strOfNums ((zs.drop a2).take n.toNat)).size ≤ n.toNat := by simpa using hsz
        show (strOfNums ((zs.drop a2).take n.toNat)).size ≤ 1100
        omega
      · rw [if_pos h7'] at h
        simp only [Prod.mk.injEq] at h
        exact absurd h.1 h7'
    · rw [if_neg hD] at h
      by_cases h7' : contentRE key bf k n ⟨#[]⟩ = 0
      · rw [if_neg (by simp [h7'])] at h
        simp only [Prod.mk.injEq, true_and] at h
        obtain ⟨rfl, rfl⟩ := h
        refine ⟨k1, k8, n0, h7, (by decide : (⟨#[]⟩ : ByteArray).size ≤ 1100), fun hk2 => ⟨rfl, rfl, ?_⟩⟩
        simp only at hk2
        have h8 : tooManyB k n = false := by
          unfold tooLargeB at h5'
          simp at h5'
          exact h5'.2
        unfold tooManyB at h8
        rcases hk2 with rfl | rfl <;> simpa using h8
      · rw [if_pos h7'] at h
        simp only [Prod.mk.injEq] at h
        exact absurd h.1 h7'
  · rw [if_pos he] at h
    simp only [Prod.mk.injEq] at h
    exact absurd h.1 he

theorem read_any (p : Nat) (S : ByteArray) (hs : S.size ≤ 9000000000000000) : ∀ (f dep : Nat), f + dep = 9 → ∀ (a : Nat) (v : Value) (xs : List It) (w : World) (key : Bool) (bf : ByteArray), Rw w p S a v xs →
    Calls Tryd.prog 45 #[.pointer (some ⟨p, 0, none⟩), .int .i64 dep, .bool key, .string bf] w (ItP p S v (readE (dataI S) S.size (f + 1) a xs dep key bf) w) := by
  intro f
  induction f with
  | zero =>
    intro dep hf a v xs w key bf h
    obtain ⟨er, x, a3, hi⟩ : ∃ er x a3, itemRE (dataI S) S.size xs.length dep key bf a = (er, x, a3) := ⟨_, _, _, rfl⟩
    have hne : er ≠ 0 := by
      intro h0
      subst h0
      have := (itemR_zero hi).2.1
      omega
    rw [readE_bad hi hne, ← answer_bad a xs x a3 hne]
    exact rleaf_any p S a v xs w h hs dep key bf hi (fun h0 => absurd h0 hne)
  | succ f ih =>
    intro dep hf a v xs w key bf h
    obtain ⟨er, x, a3, hi⟩ : ∃ er x a3, itemRE (dataI S) S.size xs.length dep key bf a = (er, x, a3) := ⟨_, _, _, rfl⟩
    by_cases hne : er = 0
    · subst hne
      by_cases hk : x.k = 5 ∨ x.k = 6
      · obtain ⟨_, _, n0, _, _, hnest⟩ := itemR_fine (fun z hz => dataI_rng S z hz) (dataI_len S) hi
        obtain ⟨hh, hd, hN⟩ := hnest hk
        obtain ⟨h512, hdep, hkey⟩ := itemR_zero hi
        have hkf : key = false := by
          cases key with
          | false => rfl
          | true =>
            have := hkey rfl
            rcases hk with h1 | h1 <;> rw [h1] at this <;> simp [canKeyB] at this
        subst hkf
        rw [readE_nest hi hk]
        obtain ⟨k, n, d⟩ := x
        simp only at hd hk n0 hh hN
        subst hd
        obtain ⟨n, rfl⟩ := Int.eq_ofNat_of_zero_le n0
        have hIH : ∀ (W : World) (a3 : Nat) (v3 : Value) (xs3 : List It) (k3 : Bool) (b3 : ByteArray), Rw W p S a3 v3 xs3 → Calls Tryd.prog 45 #[.pointer (some ⟨p, 0, none⟩), .int .i64 ((dep : Int) + 1), .bool k3, .string b3] W (ItP p S v3 (readE (dataI S) S.size (f + 1) a3 xs3 (dep + 1) k3 b3) W) := by
          intro W a3 v3 xs3 k3 b3 hR
          have := ih (dep + 1) (by omega) a3 v3 xs3 W k3 b3 hR
          rwa [show ((dep + 1 : Nat) : Int) = (dep : Int) + 1 from by omega] at this
        rcases hk with rfl | rfl
        · exact it_array (fun a2 xs2 k2 b2 => readE (dataI S) S.size (f + 1) a2 xs2 (dep + 1) k2 b2) p S a v xs w h hs dep bf n a3 hh h512 hdep (by omega) hIH
        · refine it_map (fun a2 xs2 k2 b2 => readE (dataI S) S.size (f + 1) a2 xs2 (dep + 1) k2 b2) p S a v xs w h hs dep bf n a3 hh h512 hdep (by omega) ?_ hIH
          intro a4 xs4 b4 h0
          obtain ⟨y, a5, hy, hp, hl⟩ := readE_ok (dataI S) S.size (f + 1) a4 (dep + 1) xs4 true b4 h0
          obtain ⟨y1, y2, y3, y4, y5, _⟩ := itemR_fine (fun z hz => dataI_rng S z hz) (dataI_len S) hy
          exact ⟨y, prefix_at hp, y1, y2, y3, y4, y5, hl⟩
      · rw [readE_leaf hi hk, ← answer_ok a xs x a3]
        exact rleaf_any p S a v xs w h hs dep key bf hi (fun _ => hk)
    · rw [readE_bad hi hne, ← answer_bad a xs x a3 hne]
      exact rleaf_any p S a v xs w h hs dep key bf hi (fun h0 => absurd h0 hne)

def DecRP (zs : List Int) (N : Nat) (w : World) (e : Ending) (w' : World) : Prop :=
  ∃ v, e = .returned (.tuple #[v, .int .i64 (decE zs N).2.2, .int .i64 (decE zs N).1]) ∧ w'.ownsRow w.heap.size 58 3 v (decE zs N).2.1.length (itCells (decE zs N).2.1) ∧ Below w.heap.size w w'

set_option maxHeartbeats 2000000 in
theorem decodeR_any (A : Option Addr) (N cap : Nat) (zs : List Int) (w : World) (hb : Bys w A N zs) (hN : N ≤ 1000000000000) (ht : Tabs w) :
    Calls Tryd.prog 23 #[.slice A N cap] w (DecRP zs N w) := by
  have hcv := conv_bys (cap := cap) hb
  have hda := dataI_str zs hb.rng
  have hsz : (strOfNums zs).size = N := by
    have h1 := dataI_len (strOfNums zs)
    rw [hda] at h1
    have := hb.len
    omega
  have hsame := dec_same hb.rng hb.len
  unfold DecRP
  rw [hsame]
  have hb1 : Below w.heap.size w (w.alloc (.cells #[.string (strOfNums zs), .int .i64 0, .slice none 0 0] 82)) := (Below.refl _ w).alloc (Nat.le_refl _) _
  have hRr : Rr (w.alloc (.cells #[.string (strOfNums zs), .int .i64 0, .slice none 0 0] 82)) w.heap.size (strOfNums zs) 0 (.slice none 0 0) := heap_new w _
  have hRw : Rw (w.alloc (.cells #[.string (strOfNums zs), .int .i64 0, .slice none 0 0] 82)) w.heap.size (strOfNums zs) 0 (.slice none 0 0) [] :=
    ⟨hRr, World.ownsRow_nil _ _ _ _, ht.later hb1, ht.tz.hs⟩
  have hC := read_any w.heap.size (strOfNums zs) (by omega) 9 0 rfl 0 _ [] _ false ⟨#[]⟩ hRw
  rw [hda, hsz] at hC
  have HC := Lib.hid hC
  have HB1 := Lib.hid hb1
  clear hC hb1 hRr hRw hsame hda hsz ht hb
  unfold decR
  generalize hres : readE zs N 10 0 [] 0 false ⟨#[]⟩ = res at *
  obtain ⟨e0, a0, xs0⟩ := res
  by_cases he : e0 = 0
  · subst he
    rw [if_neg (by simp)]
    go_enter Tryd.func23, Tryd.ntmps23
    go_wp2_with (go_at_call 45; refine HC.out.mono ?_; rintro e w3 ⟨rfl, hri3, hok3⟩; obtain ⟨v4, hR4, ho4⟩ := hok3 rfl)
    have c1 := hR4.rr.c1
    have c2 := hR4.rr.c2
    have HR := Lib.hid hR4
    have HRI := Lib.hid hri3
    clear hR4 hri3 hok3 ho4
    go_quiet (fail)
    go_wp2
    go_ret3
    exact ⟨v4, rfl, own_base (HR.out.drewN _).own (by omega), (HB1.out.trans (HRI.out.below (by simp) (fun i hi => by cases hi))).trans (below_dn _ _ _)⟩
  · rw [if_pos he]
    go_enter Tryd.func23, Tryd.ntmps23
    go_wp2_with (go_at_call 45; refine HC.out.mono ?_; rintro e w3 ⟨rfl, hri3, hok3⟩)
    go_ret3
    exact ⟨.slice none 0 0, rfl, World.ownsRow_nil _ _ _ _, HB1.out.trans (hri3.below (by simp) (fun i hi => by cases hi))⟩
end Go.Proofs.YtepinmeidjlmmaaDoor

/- The law CborDecodes, walked. -/
namespace Go.Proofs.YtepinmeidjlmmaaDoor
open Go.RowKit
set_option maxRecDepth 100000

theorem xor_rng (x y : Int) : 0 ≤ bits .xor .u8 x y ∧ bits .xor .u8 x y ≤ 255 := by
  have e : bits .xor .u8 x y = IntKind.u8.wrap ((BitVec.ofInt 8 x ^^^ BitVec.ofInt 8 y).toNat : Int) := rfl
  rw [e, IntKind.wrap_u8]
  omega
theorem bv_set (zs : List Int) (j : Nat) (z : Int) : bv (zs.set j z) = (bv zs).set j (.int .u8 z) := by
  simp [bv, List.map_set]

set_option maxHeartbeats 2000000 in
theorem decodes_dark (A R : Option Addr) (n cap M rc : Nat) (z y : Int) (w : World) (hM : 1000 < n) (ht : Tabs w) :
    Calls Tryd.prog 5 #[.slice A n cap, .slice R M rc, .int .i64 z, .int .u8 y] w fun e w' => e = .returned (.bool true) ∧ Below w.heap.size w w' := by
  have hM2 : (1000 : Int) < (n : Int) := by omega
  have HT := Lib.hid ht
  clear ht
  go_enter Tryd.func5, Tryd.ntmps5
  go_wp2_with (go_at_call 15; refine (awake_any _ HT.out).mono ?_; rintro e w1 ⟨rfl, hb1⟩)
  go_ret
  exact ⟨rfl, hb1⟩

theorem tree_codes (l : List Int) (v : Value) (w : World) (hI : ItemsAt w w.heap.size v (treeL l)) (ht : Tabs w) :
    ∃ ys : List Int, 0 < ys.length ∧ ys.length ≤ 900000 ∧ (∀ z ∈ ys, 0 ≤ z ∧ z ≤ 255) ∧ Calls Tryd.prog 17 #[v] w fun e w' => ∃ v', e = .returned (.tuple #[v', .int .i64 0]) ∧ NewBytes w ys v' w' := by
  have hpos : ∀ x ∈ treeL l, 0 ≤ x.n := fun x hx => (treeL_whole l x hx).pos
  have hz := tree_valid l
  have hzR : validR (treeL l) = 0 := by rw [← valid_same _ hpos]; exact hz
  have hS := (validGo_sound (treeL l) 0 [] hpos hz).1
  have hsh := validGo_shape (treeL l) 0 [] hz
  have hlen := treeL_len l
  have hlen0 : 0 < (treeL l).length := List.length_pos_iff.2 (treeL_ne l)
  have hp := encAll_pos hlen0 hS hsh
  have hL := encAllR_len hS
  refine ⟨encAllR (treeL l), hp.2, by omega, fun z hz => ?_, encodeR_good _ v w hI ht hzR hS (by omega)⟩
  unfold encAllR at hz
  obtain ⟨x, _, hx⟩ := List.mem_flatMap.1 hz
  exact dataI_rng _ z hx
end Go.Proofs.YtepinmeidjlmmaaDoor

/- The law CborDecodes, walked. -/
namespace Go.Proofs.YtepinmeidjlmmaaDoor
open Go.RowKit
set_option maxRecDepth 100000

theorem row_of {w : World} {base n : Nat} {v : Value} {ys : List Int} (h : w.ownsRow base 5 1 v n (bv ys)) (hn : 0 < n) : ∃ g cap, v = .slice (some ⟨g, 0, none⟩) n cap ∧ base ≤ g ∧ (∀ j, j < n → w.cell? ⟨g, j, none⟩ = some (.int .u8 (ys.getD j 0))) ∧ ∀ j, w.frozen? ⟨g, j, none⟩ = false := by
  have hl : ys.length = n := by have := h.1; rw [bv_len] at this; omega
  rcases h.2 with ⟨_, h0⟩ | ⟨g, cap, cur, hv, hb, hg, _⟩
  · omega
  · refine ⟨g, cap, hv, hb, fun j hj => ?_, fun j => frozen_of_row w g j cur 5 hg⟩
    have e : (⟨g, 0, none⟩ : Addr).add j = ⟨g, j, none⟩ := by unfold Addr.add; split <;> simp_all
    rw [← e]
    refine h.cells (by rw [hv]; rfl) j _ ?_
    simp only [bv, List.getElem?_map, List.getD]
    rw [List.getElem?_eq_getElem (by omega)]
    rfl

set_option maxHeartbeats 4000000 in
theorem decodes_law (A R : Option Addr) (n cap M rc : Nat) (zs l : List Int) (z y : Int) (w : World) (hb : Bys w A n zs) (hc : n ≤ cap) (hcm : cap ≤ 9223372036854775807) (hM : n ≤ 1000) (h : Ints w R M l) (hm : M ≤ 9223372036854775807) (ht : Tabs w) :
    Calls Tryd.prog 5 #[.slice A n cap, .slice R M rc, .int .i64 z, .int .u8 y] w fun e w' => e = .returned (.bool true) ∧ Below w.heap.size w w' := by
  have hM2 : ¬ (1000 : Int) < (n : Int) := by omega
  have HC := Lib.hid (Tree_any R M rc l w h hm)
  have HT := Lib.hid ht
  have HBY := Lib.hid hb
  obtain ⟨m, hzm⟩ : ∃ m : Nat, z % 65536 = m := ⟨(z % 65536).toNat, by have := Int.emod_nonneg z (show (65536 : Int) ≠ 0 by decide); omega⟩
  clear h ht hb
  go_enter Tryd.func5, Tryd.ntmps5
  go_wp2_with (go_at_call 20; refine HC.out.mono ?_; rintro e w1 ⟨g, c, rfl, ho, hb⟩)
  have HI := Lib.hid (tree_items ho)
  have HB1 := Lib.hid hb
  clear ho hb
  obtain ⟨ys, hy1, hy2, hyr, h17⟩ := tree_codes l _ w1 HI.out (HT.out.later HB1.out)
  have HYR := Lib.hid hyr
  clear hyr
  refine h17.mono ?_
  rintro e w2 ⟨v2, rfl, ho2, hb2⟩
  obtain ⟨N, hN⟩ : ∃ N, ys.length = N := ⟨_, rfl⟩
  rw [hN] at ho2 hy1 hy2
  obtain ⟨g2, c2, rfl, hg2, hcell, hfr⟩ := row_of ho2 hy1
  have HO2 := Lib.hid ho2
  have HB2 := Lib.hid (HB1.out.trans (hb2.mono HB1.out.size))
  have hj : m % N < N := Nat.mod_lt _ hy1
  have cj := hcell _ hj
  have fj := hfr (m % N)
  have hN0 : ¬ (N : Int) = 0 := by omega
  have hN1 : (0 : Int) < (N : Int) := by omega
  clear hcell hfr ho2 hb2 h17
  obtain ⟨b', hb'⟩ : ∃ b', bits .xor .u8 (ys[m % N]'(by omega)) y = b' := ⟨_, rfl⟩
  have hxr := xor_rng (ys[m % N]'(by omega)) y
  rw [hb'] at hxr
  have ho3 := (HO2.out.stored (m % N) (.int .u8 b')).1
  rw [← bv_set] at ho3
  have HB3 := Lib.hid (HB2.out.trans (below_far (B := w.heap.size) (g := g2) w2 (by have := HB1.out.size; omega) (m % N) (.int .u8 b')))
  obtain ⟨qs, hqs⟩ : ∃ qs, ys.set (m % N) b' = qs := ⟨_, rfl⟩
  have hqr : ∀ z ∈ qs, 0 ≤ z ∧ z ≤ 255 := by
    intro x hx
    rw [← hqs] at hx
    rcases List.mem_or_eq_of_mem_set hx with h1 | h1
    · exact HYR.out x h1
    · rw [h1]; exact hxr
  have hqn : qs.length = N := by rw [← hqs, List.length_set]; exact hN
  rw [hqs] at ho3
  obtain ⟨A3, c3, hv3, hq3, hle3, hcm3⟩ := own_row_bys ho3 hqr
  cases hv3
  have hD1 : ∀ W, Bys W A n zs → Tabs W → Calls Tryd.prog 22 #[.slice A n cap] W (DecP zs n W) := fun W h1 h2 => decode_any A n cap zs W h1 hc hcm (by omega) h2
  have hR1 : ∀ W, Bys W A n zs → Tabs W → Calls Tryd.prog 23 #[.slice A n cap] W (DecRP zs n W) := fun W h1 h2 => decodeR_any A n cap zs W h1 (by omega) h2
  have hD2 : ∀ W, Bys W (some ⟨g2, 0, none⟩) N qs → Tabs W → Calls Tryd.prog 22 #[.slice (some ⟨g2, 0, none⟩) N c2] W (DecP qs N W) := fun W h1 h2 => decode_any _ N c2 qs W h1 hle3 hcm3 (by omega) h2
  have hR2 : ∀ W, Bys W (some ⟨g2, 0, none⟩) N qs → Tabs W → Calls Tryd.prog 23 #[.slice (some ⟨g2, 0, none⟩) N c2] W (DecRP qs N W) := fun W h1 h2 => decodeR_any _ N c2 qs W h1 (by omega) h2
  unfold DecP at hD1 hD2
  unfold DecRP at hR1 hR2
  generalize decE zs n = r1 at hD1 hR1
  generalize decE qs N = r2 at hD2 hR2
  obtain ⟨e1, l1, u1⟩ := r1
  obtain ⟨e2, l2, u2⟩ := r2
  dsimp only at hD1 hR1 hD2 hR2
  have HD1 := Lib.hid hD1
  have HR1 := Lib.hid hR1
  have HD2 := Lib.hid hD2
  have HR2 := Lib.hid hR2
  have HQ := Lib.hid hq3
  clear hD1 hR1 hD2 hR2 hq3 ho3 hqr hxr HO2
  go_wp2_with fail
  refine (HD1.out _ (HBY.out.below HB3.out) (HT.out.later HB3.out)).mono ?_
  rintro e w4 ⟨v4, rfl, ho4, hb4, _, hok4, hlen4⟩
  have HI4 := Lib.hid (items_own ho4 hok4 (by omega))
  have HB4 := Lib.hid (HB3.out.trans (hb4.mono HB3.out.size))
  have HQ4 := Lib.hid (HQ.out.below hb4)
  clear ho4 hb4
  go_wp2_with fail
  refine (HR1.out _ (HBY.out.below HB4.out) (HT.out.later HB4.out)).mono ?_
  rintro e w5 ⟨v5, rfl, ho5, hb5⟩
  have HI5 := Lib.hid (items_own ho5 hok4 (by omega))
  have HI45 := Lib.hid (HI4.out.below hb5)
  have HB5 := Lib.hid (HB4.out.trans (hb5.mono HB4.out.size))
  have HQ5 := Lib.hid (HQ4.out.below hb5)
  have hs5 := hb5.size
  clear ho5 hb5 hok4
  go_wp2_with fail
  refine (HD2.out _ HQ5.out (HT.out.later HB5.out)).mono ?_
  rintro e w6 ⟨v6, rfl, ho6, hb6, _, hok6, hlen6⟩
  have HI6 := Lib.hid (items_own ho6 hok6 (by omega))
  have HI56 := Lib.hid (HI5.out.below hb6)
  have HI46 := Lib.hid (HI45.out.below (hb6.mono hs5))
  have HB6 := Lib.hid (HB5.out.trans (hb6.mono HB5.out.size))
  have HQ6 := Lib.hid (HQ5.out.below hb6)
  have hs6 := hb6.size
  clear ho6 hb6
  go_wp2_with fail
  refine (HR2.out _ HQ6.out (HT.out.later HB6.out)).mono ?_
  rintro e w7 ⟨v7, rfl, ho7, hb7⟩
  have HI7 := Lib.hid (items_own ho7 hok6 (by omega))
  have HI67 := Lib.hid (HI6.out.below hb7)
  have HI57 := Lib.hid (HI56.out.below (hb7.mono hs6))
  have HI47 := Lib.hid (HI46.out.below (hb7.mono (Nat.le_trans hs5 hs6)))
  have HB7 := Lib.hid (HB6.out.trans (hb7.mono HB6.out.size))
  clear ho7 hb7 hok6
  go_wp2_with fail
  refine (same_any _ _ _ _ l1 _ HI47.out HI57.out).mono ?_
  rintro e w8 ⟨rfl, m8, rfl⟩
  go_wp2_with fail
  refine (same_any _ _ _ _ l2 _ (HI67.out.below (below_dn _ _ _)) (HI7.out.below (below_dn _ _ _))).mono ?_
  rintro e w9 ⟨rfl, m9, rfl⟩
  go_wp2_with fail
  refine (awake_any _ (HT.out.later (HB7.out.trans (below_dn _ _ _)))).mono ?_
  rintro e w10 ⟨rfl, hb10⟩
  go_wp2
  go_ret
  exact ⟨rfl, (HB7.out.trans (below_dn _ _ _)).trans (hb10.mono HB7.out.size)⟩
end Go.Proofs.YtepinmeidjlmmaaDoor

/- CborDecodes: the arguments, opened. -/
namespace Go.Proofs.YtepinmeidjlmmaaDoor
open Go.ChangeShapes Go.WideShapes Go.ChangeAt Go.RowKit
set_option maxRecDepth 100000

/-- A []byte argument, opened: its capacity too -/
theorem open_bysC {H : Type} {enc : TypeId × Value → H} {W : World} {b0 base : Nat} {r : Reach} {v : Value} {d : DataW H} {ps : List MemPlace} (hval : Value.okWide Tryd.prog W r b0 25 v) (hd : DataW.Trod enc Tryd.prog W base (fun _ => true) true 25 v d ps) :
    ∃ (A : Option Addr) (n cap : Nat) (zs : List Int), v = .slice A n cap ∧ n ≤ cap ∧ cap ≤ 9223372036854775807 ∧ Bys W A n zs := by
  obtain ⟨a0, len, cap, rfl⟩ := okWide_slice Tryd.underlying25 hval
  obtain ⟨fuel, hf⟩ := hd
  rcases open_ints Tryd.underlying25 Tryd.underlying5 tryd_cells5 hf with ⟨hcs, hx⟩ | ⟨a, len', cap', zs, hcs, _, hl, hm, hz, hx, hcell, hwz⟩
  · simp [Value.cells] at hcs
    obtain ⟨rfl, rfl, rfl⟩ := hcs
    exact ⟨none, 0, 0, [], rfl, Nat.le_refl _, by omega, rfl, (by simp), fun i hi => absurd hi (by omega)⟩
  · simp [Value.cells] at hcs
    obtain ⟨rfl, rfl, rfl⟩ := hcs
    simp only [if_true] at hz
    refine ⟨some a, len, cap, zs.take len, rfl, hl, by unfold maxLen at hm; omega, by simp; omega, fun z hzm => u8_of_wf (hwz z (List.mem_of_mem_take hzm)), fun i hi => ⟨a, rfl, ?_⟩⟩
    rw [hcell i (by omega)]
    simp [List.getD, hi]
theorem decodes_any (A R : Option Addr) (n cap M rc : Nat) (zs l : List Int) (z y : Int) (w : World) (hb : Bys w A n zs) (hc : n ≤ cap) (hcm : cap ≤ 9223372036854775807) (h : Ints w R M l) (hm : M ≤ 9223372036854775807) (ht : Tabs w) :
    Calls Tryd.prog 5 #[.slice A n cap, .slice R M rc, .int .i64 z, .int .u8 y] w fun e w' => e = .returned (.bool true) ∧ Below w.heap.size w w' := by
  by_cases hM : 1000 < n
  · exact decodes_dark A R n cap M rc z y w hM ht
  · exact decodes_law A R n cap M rc zs l z y w hb hc hcm (by omega) h hm ht
end Go.Proofs.YtepinmeidjlmmaaDoor
