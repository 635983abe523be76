import Derived.Test.YtepinmeidjlmmaaDoorF1
namespace Go.Proofs.YtepinmeidjlmmaaDoor
open Go.RowKit

theorem checkR_zero {c dep : Nat} {key : Bool} {bf : ByteArray} {k n : Int} {d : ByteArray} (h : checkRE c dep key bf k n d = 0) : c < 512 ∧ 1 ≤ k ∧ k ≤ 8 ∧ dep ≤ 8 ∧ (key = true → canKeyB k = true) ∧ shapeB k n d = true ∧ tooLargeB k (argN k n d) = false ∧ ¬ (k = 4 ∧ Lib.validD d.data.toList = false) ∧ ¬ (key = true ∧ bf.toList.isEmpty = false ∧ lessB bf (bytesS k n d) = false) := by
  by_cases h1 : 512 ≤ c
  · rw [cr8 h1] at h; cases h
  by_cases h2 : k < 1 ∨ 8 < k
  · rw [cr3 (by omega) h2] at h; cases h
  by_cases h3 : key = true ∧ canKeyB k = false
  · rw [cr3k (by omega) h2 h3] at h; cases h
  by_cases h4 : 8 < dep
  · rw [cr5 (by omega) h2 h3 h4] at h; cases h
  cases h5 : shapeB k n d with
  | false => rw [cr4 (by omega) h2 h3 (by omega) h5] at h; cases h
  | true =>
    cases h6 : tooLargeB k (argN k n d) with
    | true => rw [cr8s (by omega) h2 h3 (by omega) h5 h6] at h; cases h
    | false =>
      by_cases h7 : k = 4 ∧ Lib.validD d.data.toList = false
      · rw [cr6 (by omega) h2 h3 (by omega) h5 h6 h7] at h; cases h
      · rw [crK (by omega) h2 h3 (by omega) h5 h6 h7] at h
        refine ⟨by omega, by omega, by omega, by omega, fun hk => ?_, rfl, rfl, h7, fun h8 => ?_⟩
        · cases hc : canKeyB k with
          | true => rfl
          | false => exact absurd ⟨hk, hc⟩ h3
        · rw [if_pos h8] at h; cases h
theorem many_512 {k n : Int} {d : ByteArray} (h6 : tooLargeB k (argN k n d) = false) (hk : k = 5 ∨ k = 6) : n ≤ 512 := by
  rcases hk with rfl | rfl
  · simp [tooLargeB, tooManyB, argN, hasDataB] at h6; omega
  · simp [tooLargeB, tooManyB, argN, hasDataB] at h6; omega

theorem walkE_ok {f : Nat} {l : List It} {a dep : Nat} {key : Bool} {bf : ByteArray} (h : (walkE (f + 1) l a dep key bf).2 = 0) : ∃ x, l[a]? = some x ∧ checkRE a dep key bf x.k x.n x.d = 0 := by
  unfold walkE at h
  cases hx : l[a]? with
  | none => rw [hx] at h; simp at h
  | some x =>
    rw [hx] at h
    simp only at h
    by_cases hc : checkRE a dep key bf x.k x.n x.d = 0
    · exact ⟨x, rfl, hc⟩
    · rw [if_pos hc] at h
      exact absurd h hc

theorem walk_any (l : List It) (v : Value) : ∀ (f dep : Nat), f + dep = 9 → ∀ (at_ : Nat) (key : Bool) (bf : ByteArray) (w : World), ItemsAt w w.heap.size v l → Tabs w →
    Calls Tryd.prog 42 #[v, .int .i64 at_, .int .i64 dep, .bool key, .string bf] w (WalkPost w (walkE (f + 1) l at_ dep key bf)) := by
  intro f
  induction f with
  | zero =>
    intro dep hf at_ key bf w hI ht
    rcases hI.form with ⟨rfl, rfl⟩ | ⟨b, off, cap, rfl, hb, hcells⟩
    · exact walk_end none 0 0 at_ dep key bf w (by omega)
    · by_cases hat : at_ < l.length
      · obtain ⟨c0, c1, c2⟩ := hcells at_ hat
        have hx : l[at_]? = some l[at_] := List.getElem?_eq_getElem hat
        have hn := (hI.ok l[at_] (List.getElem_mem hat)).1
        by_cases hc : checkRE at_ dep key bf l[at_].k l[at_].n l[at_].d = 0
        · have := (checkR_zero hc).2.2.2.1
          omega
        · have e : walkE (0 + 1) l at_ dep key bf = (at_, checkRE at_ dep key bf l[at_].k l[at_].n l[at_].d) := by unfold walkE; rw [hx]; simp only; rw [if_pos hc]
          rw [e]
          exact walk_bad b off l.length cap at_ dep key bf _ _ _ w hat hI.len ht hn c0 c1 c2 _ rfl hc
      · have e : walkE (0 + 1) l at_ dep key bf = (at_, 1) := by unfold walkE; rw [List.getElem?_eq_none (by omega)]
        rw [e]
        exact walk_end _ _ _ at_ dep key bf w (by omega)
  | succ f ih =>
    intro dep hf at_ key bf w hI ht
    rcases hI.form with ⟨rfl, rfl⟩ | ⟨b, off, cap, rfl, hb, hcells⟩
    · exact walk_end none 0 0 at_ dep key bf w (by omega)
    · by_cases hat : at_ < l.length
      · obtain ⟨c0, c1, c2⟩ := hcells at_ hat
        have hx : l[at_]? = some l[at_] := List.getElem?_eq_getElem hat
        have hn := (hI.ok l[at_] (List.getElem_mem hat)).1
        generalize hxe : l[at_] = x at *
        by_cases hc : checkRE at_ dep key bf x.k x.n x.d = 0
        · obtain ⟨z1, z2, z3, z4, z5, z6, z7, z8, z9⟩ := checkR_zero hc
          have hIH : ∀ (W : World) (a2 : Nat) (k2 : Bool) (b2 : ByteArray), Below w.heap.size w W → Calls Tryd.prog 42 #[.slice (some ⟨b, off, none⟩) l.length cap, .int .i64 a2, .int .i64 ((dep : Int) + 1), .bool k2, .string b2] W (WalkPost W (walkE (f + 1) l a2 (dep + 1) k2 b2)) := fun W a2 k2 b2 hW =>
            ih (dep + 1) (by omega) a2 k2 b2 W (itemsAt_mono (hI.below hW) hW.size) (ht.later hW)
          obtain ⟨N, hN⟩ : ∃ N : Nat, x.n = N := ⟨x.n.toNat, by omega⟩
          by_cases hk5 : x.k = 5
          · have hN5 := many_512 z7 (.inl hk5)
            have e : walkE (f + 1 + 1) l at_ dep key bf = loopE (fun a2 k2 b2 => walkE (f + 1) l a2 (dep + 1) k2 b2) l false N (at_ + 1) ⟨#[]⟩ := by
              rw [walkE, hx]; simp only; rw [if_neg (by simp [hc]), if_pos (.inl hk5), hk5, hN]; rfl
            rw [e]
            rw [hk5, hN] at hc
            rw [hk5] at c0
            rw [hN] at c1
            exact walk_array _ l b off l.length cap at_ dep N key bf _ w hat hI.len ht (by omega) c0 c1 c2 hc (by omega) hIH
          by_cases hk6 : x.k = 6
          · have hN6 := many_512 z7 (.inr hk6)
            have e : walkE (f + 1 + 1) l at_ dep key bf = loopE (fun a2 k2 b2 => walkE (f + 1) l a2 (dep + 1) k2 b2) l true N (at_ + 1) ⟨#[]⟩ := by
              rw [walkE, hx]; simp only; rw [if_neg (by simp [hc]), if_pos (.inr hk6), hk6, hN]; rfl
            rw [e]
            rw [hk6, hN] at hc
            rw [hk6] at c0
            rw [hN] at c1
            refine walk_map _ l b off cap at_ dep N key bf _ w hat hI.len ht (by omega) hb hcells (fun y hy => (hI.ok y hy).1) c0 c1 c2 hc (by omega) (fun a2 b2 h0 => ?_) hIH
            obtain ⟨y, hy, hcy⟩ := walkE_ok h0
            obtain ⟨y1, y2, y3, _, _, y6, y7, _⟩ := checkR_zero hcy
            have hs := sound_item y6 y7 y2
            exact ⟨y, hy, y2, y3, hs.1, by omega⟩
          · have e : walkE (f + 1 + 1) l at_ dep key bf = (at_ + 1, 0) := by
              rw [walkE, hx]; simp only; rw [if_neg (by simp [hc]), if_neg (by omega)]
            rw [e]
            exact walk_leaf b off l.length cap at_ dep key bf _ _ _ w hat hI.len ht hn c0 c1 c2 hc (by simp; omega) (by simp; omega)
        · have e : walkE (f + 1 + 1) l at_ dep key bf = (at_, checkRE at_ dep key bf x.k x.n x.d) := by rw [walkE, hx]; simp only; rw [if_pos hc]
          rw [e]
          exact walk_bad b off l.length cap at_ dep key bf _ _ _ w hat hI.len ht hn c0 c1 c2 _ rfl hc
      · have e : walkE (f + 1 + 1) l at_ dep key bf = (at_, 1) := by rw [walkE, List.getElem?_eq_none (by omega)]
        rw [e]
        exact walk_end _ _ _ at_ dep key bf w (by omega)

end Go.Proofs.YtepinmeidjlmmaaDoor
