/- CborMaps: plain facts of its values. -/
import Derived.Test.YtepinmeidjlmmaaDoorMDM
namespace Go.Proofs.YtepinmeidjlmmaaDoor
open Go.RowKit
set_option maxRecDepth 100000

/-- a value as Tree makes it; a value of the law -/
def Nice (l : List It) : Prop := l ≠ [] ∧ l.length ≤ 241 ∧ ∀ x ∈ l, Tame x
def Fair (l : List It) : Prop := l.length ≤ 300 ∧ ∀ x ∈ l, 0 ≤ x.n
theorem Nice.fair {l : List It} (h : Nice l) : Fair l := ⟨Nat.le_trans h.2.1 (by decide), fun x hx => (h.2.2 x hx).1⟩
theorem tree_nice (l : List Int) : Nice (treeL l) := ⟨treeL_ne l, treeL_len l, whole_tame l⟩
theorem Ints.cut {w : World} {A : Option Addr} {n k : Nat} {l : List Int} (h : Ints w A n l) (hk : k ≤ n) : Ints w (A.map fun x => x.add k) (n - k) (l.drop k) := by
  refine ⟨by rw [List.length_drop, h.len], fun j hj => ?_⟩
  obtain ⟨a, e, hc⟩ := h.at_ (k + j) (by omega)
  refine ⟨a.add k, by rw [e]; rfl, ?_⟩
  rw [add_add', hc]
  simp [List.getD, List.getElem?_drop]
theorem Ints.none0 (w : World) (A : Option Addr) : Ints w A 0 [] := ⟨rfl, fun i hi => absurd hi (by omega)⟩
theorem total_fair : ∀ {ls : List (List It)}, (∀ l ∈ ls, Fair l) → total ls ≤ ls.length * 300
  | [], _ => by simp [total]
  | x :: r, h => by
    have h1 := (h x (List.mem_cons_self ..)).1
    have h2 := total_fair (ls := r) fun l hl => h l (List.mem_cons_of_mem _ hl)
    have e : total (x :: r) = x.length + total r := by simp [total]
    rw [e, List.length_cons]
    omega
theorem VN.at0 {w : World} {base : Nat} {v : Value} {l0 : List It} {rest : List (List It)} (h : VN w base v (l0 :: rest)) :
    ∃ g cap A c, v = .slice (some ⟨g, 0, none⟩) (rest.length + 1) cap ∧ w.cell? ⟨g, 0, none⟩ = some (.slice A l0.length c) ∧ w.frozen? ⟨g, 0, none⟩ = false ∧ ItemsAt w w.heap.size (.slice A l0.length c) l0 ∧ base ≤ g ∧ g < w.heap.size := by
  obtain ⟨_, vs, ho, hc⟩ := h
  obtain ⟨A, c, h1, h2, _⟩ := hc 0 (by simp)
  rcases ho.2 with ⟨_, h0⟩ | ⟨g, cap, cur, hv, hb, hg, _⟩
  · simp at h0
  · have e : (⟨g, 0, none⟩ : Addr).add 0 = ⟨g, 0, none⟩ := by unfold Addr.add; simp
    have hcell := ho.cells (by rw [hv]; rfl) 0 _ h1
    rw [e] at hcell
    refine ⟨g, cap, A, c, by rw [hv]; rfl, hcell, ?_, h2, hb, lt_of_heap hg⟩
    simp [World.frozen?, hg]
theorem ItemsAt.set_other {w : World} {B n c : Nat} {v : Value} {l : List It} {p : Addr} {a : Option Addr} (h : ItemsAt w B v l) (hp : w.cell? p = some (.slice a n c)) (x : Value) : ItemsAt (w.setCell p x) B v l := by
  refine ⟨?_, h.ok, h.len⟩
  rcases h.form with h0 | ⟨b, off, cap, hv, hlt, hc⟩
  · exact .inl h0
  · refine .inr ⟨b, off, cap, hv, hlt, fun i hi => ?_⟩
    have ho : ∀ {q : Addr} {u : Value}, w.cell? q = some u → (∀ a n c, u ≠ .slice a n c) → (w.setCell p x).cell? q = some u := by
      intro q u hq hu
      rw [World.cell?_setCell_other _ _ _ _ (by rintro rfl; rw [hq] at hp; cases hp; exact hu _ _ _ rfl)]
      exact hq
    exact ⟨ho (hc i hi).1 (by intro _ _ _ e; cases e), ho (hc i hi).2.1 (by intro _ _ _ e; cases e), ho (hc i hi).2.2 (by intro _ _ _ e; cases e)⟩
theorem VS.set0 {w : World} {B g cap : Nat} {l0 : List It} {rest : List (List It)} (h : VS w B (.slice (some ⟨g, 0, none⟩) (rest.length + 1) cap) (l0 :: rest)) {A : Option Addr} {c : Nat} {ys : List It} (hI : ItemsAt w B (.slice A ys.length c) ys) :
    VS (w.setCell ⟨g, 0, none⟩ (.slice A ys.length c)) B (.slice (some ⟨g, 0, none⟩) (rest.length + 1) cap) (ys :: rest) := by
  rcases h with ⟨hv, _⟩ | ⟨cb, cap', hv, hV⟩
  · cases hv
  · have e : cb = g := by cases hv; rfl
    subst e
    obtain ⟨A0, c0, h1, _⟩ := hV.cell 0 (by simp)
    refine .inr ⟨cb, cap, rfl, hV.lt, fun i hi => ?_⟩
    match i, hi with
    | 0, _ => exact ⟨A, c, World.cell?_setCell_same _ _ _ h1, hI.set_other h1 _⟩
    | j + 1, hj =>
      obtain ⟨A1, c1, h3, h4⟩ := hV.cell (j + 1) (by simpa using hj)
      refine ⟨A1, c1, ?_, h4.set_other h1 _⟩
      rw [World.cell?_setCell_other _ _ _ _ (by intro e; cases e)]
      exact h3
theorem VS.get {w : World} {B : Nat} {V : Value} {ls : List (List It)} (h : VS w B V ls) {i : Nat} (hi : i < ls.length) :
    ∃ cb cap A c, V = .slice (some ⟨cb, 0, none⟩) ls.length cap ∧ w.cell? ⟨cb, i, none⟩ = some (.slice A (ls.getD i []).length c) ∧ ItemsAt w B (.slice A (ls.getD i []).length c) (ls.getD i []) := by
  rcases h with ⟨_, h0⟩ | ⟨cb, cap, hv, hV⟩
  · rw [h0] at hi; simp at hi
  · obtain ⟨A, c, h1, h2⟩ := hV.cell i hi
    have e : ls.getD i [] = ls[i] := by simp [List.getD, List.getElem?_eq_getElem hi]
    rw [e]
    exact ⟨cb, cap, A, c, hv, h1, h2⟩
theorem addr_at (g j : Nat) : (⟨g, 0, none⟩ : Addr).add j = ⟨g, j, none⟩ := by unfold Addr.add; split <;> simp_all
theorem drewN_below {w w' : World} (h : ∃ m, w.drewN m = w') : Below w.heap.size w w' := by
  obtain ⟨m, rfl⟩ := h
  exact ⟨rfl, rfl, rfl, by simp [World.drewN], fun k _ => rfl⟩
/-- what Map answers without a fault is looked up -/
theorem map_look {K : Nat → Int} {n : Nat} {ls : List (List It)} {L : List It} (h : MapR K n ls (0, L)) (hpos : ∀ l ∈ ls, ∀ x ∈ l, 0 ≤ x.n) (hK : ∀ i, 0 ≤ K i) (h12 : n ≤ 12) :
    n = ls.length ∧ L.length ≤ 1000 ∧ ∀ i, i < n → ∃ r, lookE L (K i) = some r ∧ lookL L (some r) = ls.getD i [] := by
  rcases h with ⟨_, e⟩ | ⟨_, _, e⟩ | ⟨_, _, hz, e⟩ | ⟨hn, hnd, hv, P, hp, _, e⟩
  · cases e
  · cases e
  · exact absurd (congrArg Prod.fst e).symm hz
  · subst hn
    unfold contE at e
    by_cases hz : validE (⟨6, (ls.length : Nat), ⟨#[]⟩⟩ :: (content K ls P).flatten) = 0
    · rw [if_pos hz] at e
      have eL : L = ⟨6, (ls.length : Nat), ⟨#[]⟩⟩ :: (content K ls P).flatten := congrArg Prod.snd e
      subst eL
      have hposL : ∀ x ∈ (⟨6, (ls.length : Nat), ⟨#[]⟩⟩ :: (content K ls P).flatten : List It), 0 ≤ x.n := by
        intro x hx
        rcases List.mem_cons.1 hx with rfl | hx
        · exact Int.natCast_nonneg _
        · obtain ⟨y, hy, hxy⟩ := List.mem_flatten.1 hx
          unfold content at hy
          obtain ⟨i, _, hi⟩ := List.mem_flatMap.1 hy
          rcases List.mem_cons.1 hi with rfl | hi
          · rw [List.mem_singleton.1 hxy]; exact hK i
          · rw [List.mem_singleton.1 hi] at hxy
            by_cases hil : i < ls.length
            · rw [show ls.getD i [] = ls[i] by simp [List.getD, List.getElem?_eq_getElem hil]] at hxy
              exact hpos _ (List.getElem_mem hil) x hxy
            · rw [show ls.getD i [] = [] by simp [List.getD, List.getElem?_eq_none (Nat.le_of_not_lt hil)]] at hxy
              cases hxy
      have hs := (validGo_sound _ 0 [] hposL hz).2 (by simp)
      exact ⟨rfl, by omega, fun i hi => look_made hp hnd hv hpos hz hi⟩
    · rw [if_neg hz] at e
      exact absurd (congrArg Prod.fst e).symm hz
end Go.Proofs.YtepinmeidjlmmaaDoor
