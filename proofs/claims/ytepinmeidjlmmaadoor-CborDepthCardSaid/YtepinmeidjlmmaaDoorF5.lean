import Derived.Test.YtepinmeidjlmmaaDoorF4
namespace Go.Proofs.YtepinmeidjlmmaaDoor
open Go.RowKit

theorem walkE_bad {f : Nat} {l : List It} {a dep : Nat} {key : Bool} {bf : ByteArray} {x : It} (hx : l[a]? = some x) (hc : checkRE a dep key bf x.k x.n x.d ≠ 0) : walkE (f + 1) l a dep key bf = (a, checkRE a dep key bf x.k x.n x.d) := by
  rw [walkE, hx]; simp only; rw [if_pos hc]
theorem walkE_leaf {f : Nat} {l : List It} {a dep : Nat} {key : Bool} {bf : ByteArray} {x : It} (hx : l[a]? = some x) (hc : checkRE a dep key bf x.k x.n x.d = 0) (hk : ¬ (x.k = 5 ∨ x.k = 6)) : walkE (f + 1) l a dep key bf = (a + 1, 0) := by
  rw [walkE, hx]; simp only; rw [if_neg (by simp [hc]), if_neg hk]
theorem walkE_nest {f : Nat} {l : List It} {a dep : Nat} {key : Bool} {bf : ByteArray} {x : It} (hx : l[a]? = some x) (hc : checkRE a dep key bf x.k x.n x.d = 0) (hk : x.k = 5 ∨ x.k = 6) :
    walkE (f + 1) l a dep key bf = loopE (fun a2 k2 b2 => walkE f l a2 (dep + 1) k2 b2) l (x.k == 6) x.n.toNat (a + 1) ⟨#[]⟩ := by
  rw [walkE, hx]; simp only; rw [if_neg (by simp [hc]), if_pos hk]

theorem sim (l : List It) (hpos : ∀ x ∈ l, 0 ≤ x.n) : ∀ (f dep : Nat), f + dep = 9 → ∀ (a : Nat) (s : List Lv) (bf : ByteArray), s.length = dep → compB a s = false → KeyRel s bf →
    validGo a s (l.drop a) = fin l s a (walkE (f + 1) l a dep (atKeyB s) bf) := by
  intro f
  induction f with
  | zero =>
    intro dep hf a s bf hs hc hr
    by_cases ha : a < l.length
    · have hx : l[a]? = some l[a] := List.getElem?_eq_getElem ha
      rw [drop_at ha]
      generalize l[a] = x at hx
      have hck := check_same (k := x.k) (n := x.n) (d := x.d) hc hr
      rw [hs] at hck
      have hne : checkRE a dep (atKeyB s) bf x.k x.n x.d ≠ 0 := by
        intro h
        have := (checkR_zero h).2.2.2.1
        omega
      rw [walkE_bad hx hne, validGo, hck, if_neg hne]
      simp [fin, hne]
    · have hx : l[a]? = none := List.getElem?_eq_none (by omega)
      rw [List.drop_eq_nil_of_le (by omega), validGo, if_neg (by simp [hc]), walkE, hx]
      simp [fin]
  | succ f ih =>
    intro dep hf a s bf hs hc hr
    by_cases ha : a < l.length
    · have hx : l[a]? = some l[a] := List.getElem?_eq_getElem ha
      have hp := hpos l[a] (List.getElem_mem ha)
      rw [drop_at ha]
      generalize l[a] = x at hx hp
      have hck := check_same (k := x.k) (n := x.n) (d := x.d) hc hr
      rw [hs] at hck
      by_cases hz : checkRE a dep (atKeyB s) bf x.k x.n x.d = 0
      · rw [validGo, hck, if_pos hz]
        by_cases hk : x.k = 5 ∨ x.k = 6
        · rw [walkE_nest hx hz hk]
          have hlen : (lessS (keyS s x.k x.n x.d)).length = dep := by rw [lessS_len, keyS_len, hs]
          have hdone : doneAt l s a = popAll (lessS (keyS s x.k x.n x.d)) := by simp [doneAt, hx]
          have H := ih (dep + 1) (by omega)
          by_cases hn : x.n = 0
          · have hp0 : ¬ 0 < partsN x.k x.n := by rw [hn]; unfold partsN; split <;> (try split) <;> omega
            rw [hn]
            simp only [Int.toNat_zero, loopE]
            rw [fin, if_neg (by simp), hdone, enterS, ← hn, pushed_no hp0]
          · obtain ⟨c, hcn⟩ : ∃ c : Nat, x.n = (c : Int) + 1 := ⟨x.n.toNat - 1, by omega⟩
            have hp1 : 0 < partsN x.k x.n := by
              unfold partsN
              rcases hk with h | h
              · rw [if_pos h]; omega
              · rw [if_neg (by omega), if_pos h]; omega
            have hN : x.n.toNat = c + 1 := by omega
            rw [hN, enterS, pushed_yes hp1]
            have hpop : popAll (newLv x.k x.n :: lessS (keyS s x.k x.n x.d)) = newLv x.k x.n :: lessS (keyS s x.k x.n x.d) := by
              rw [popAll, if_neg (by show partsN x.k x.n ≠ 0; omega)]
            rw [hpop]
            have hfin : ∀ r, fin l s a r = finL l (lessS (keyS s x.k x.n x.d)) r := fun r => by unfold fin finL; rw [hdone]
            rw [hfin]
            rcases hk with h | h
            · have e6 : (x.k == 6) = false := by simp [h]
              rw [e6]
              exact loop_arr l f dep H c (a + 1) (newLv x.k x.n) _ _ (by simp [newLv, h]) (by show partsN x.k x.n = _; unfold partsN; rw [if_pos h]; omega) hlen
            · have e6 : (x.k == 6) = true := by simp [h]
              rw [e6]
              exact loop_map l f dep H c (a + 1) (newLv x.k x.n) _ _ (by simp [newLv, h]) (by show partsN x.k x.n = _; unfold partsN; rw [if_neg (by omega), if_pos h]; omega) hlen (by simp [newLv]) (.inl ⟨rfl, by rw [Lib.toList_data]; rfl⟩)
        · have hp0 : ¬ 0 < partsN x.k x.n := by unfold partsN; rw [if_neg (fun h => hk (.inl h)), if_neg (fun h => hk (.inr h))]; omega
          rw [walkE_leaf hx hz hk, fin, if_neg (by simp), enterS, pushed_no hp0]
          simp [doneAt, hx]
      · rw [walkE_bad hx hz, validGo, hck, if_neg hz]
        simp [fin, hz]
    · have hx : l[a]? = none := List.getElem?_eq_none (by omega)
      rw [List.drop_eq_nil_of_le (by omega), validGo, if_neg (by simp [hc]), walkE, hx]
      simp [fin]

theorem loopE_mono (W : Nat → Bool → ByteArray → Nat × Int) (l : List It) (mp : Bool) (hW : ∀ a k b, (W a k b).2 = 0 → a ≤ (W a k b).1) : ∀ (c a : Nat) (last : ByteArray), (loopE W l mp c a last).2 = 0 → a ≤ (loopE W l mp c a last).1 := by
  intro c
  induction c with
  | zero => intro a last _; simp [loopE]
  | succ c ih =>
    intro a last h
    rw [loopE] at h ⊢
    cases mp with
    | true =>
      simp only [if_true] at h ⊢
      by_cases h1 : (W a true last).2 = 0
      · rw [if_neg (by simp [h1])] at h ⊢
        by_cases h2 : (W (W a true last).1 false ⟨#[]⟩).2 = 0
        · rw [if_neg (by simp [h2])] at h ⊢
          exact Nat.le_trans (hW _ _ _ h1) (Nat.le_trans (hW _ _ _ h2) (ih _ _ h))
        · rw [if_pos h2] at h; exact absurd h h2
      · rw [if_pos h1] at h; exact absurd h h1
    | false =>
      simp only [Bool.false_eq_true, if_false] at h ⊢
      by_cases h1 : (W a false ⟨#[]⟩).2 = 0
      · rw [if_neg (by simp [h1])] at h ⊢
        exact Nat.le_trans (hW _ _ _ h1) (ih _ _ h)
      · rw [if_pos h1] at h; exact absurd h h1
theorem walkE_mono (l : List It) : ∀ (f a dep : Nat) (key : Bool) (bf : ByteArray), (walkE f l a dep key bf).2 = 0 → a + 1 ≤ (walkE f l a dep key bf).1 := by
  intro f
  induction f with
  | zero => intro a dep key bf h; simp [walkE] at h
  | succ f ih =>
    intro a dep key bf h
    obtain ⟨x, hx, hc⟩ := walkE_ok h
    by_cases hk : x.k = 5 ∨ x.k = 6
    · rw [walkE_nest hx hc hk] at h ⊢
      exact loopE_mono _ _ _ (fun a2 k2 b2 h2 => by have := ih a2 (dep + 1) k2 b2 h2; omega) _ _ _ h
    · rw [walkE_leaf hx hc hk]; simp

/-- the reference's Validate -/
def validR (l : List It) : Int := if (walkE 10 l 0 0 false ⟨#[]⟩).2 ≠ 0 then (walkE 10 l 0 0 false ⟨#[]⟩).2 else if (walkE 10 l 0 0 false ⟨#[]⟩).1 < l.length then 2 else 0
theorem valid_same (l : List It) (hpos : ∀ x ∈ l, 0 ≤ x.n) : validE l = validR l := by
  have h := sim l hpos 9 0 rfl 0 [] ⟨#[]⟩ rfl rfl (fun h => by cases h)
  rw [List.drop_zero] at h
  unfold validE validR
  rw [h, show atKeyB [] = false from rfl]
  by_cases he : (walkE 10 l 0 0 false ⟨#[]⟩).2 = 0
  · have hm := walkE_mono l 10 0 0 false ⟨#[]⟩ he
    obtain ⟨x, hx, _⟩ := walkE_ok he
    have hd : doneAt l [] 0 = [] := by simp [doneAt, hx, keyS, lessS, popAll]
    rw [fin, if_neg (by simp [he]), if_neg (by simp [he]), hd]
    generalize (walkE 10 l 0 0 false ⟨#[]⟩).1 = m at hm
    have hcb : compB m [] = true := by simp [compB]; omega
    by_cases hl : m < l.length
    · rw [if_pos hl, drop_at hl, validGo, check2 hcb]
      rfl
    · rw [if_neg hl, List.drop_eq_nil_of_le (by omega), validGo, if_pos hcb]
  · rw [fin, if_pos he, if_pos he]

end Go.Proofs.YtepinmeidjlmmaaDoor
