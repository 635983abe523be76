import Derived.Test.YtepinmeidjlmmaaDoorB3
namespace Go.Proofs.YtepinmeidjlmmaaDoor
open Go.RowKit

def itCells : List It → List Value
  | [] => []
  | x :: r => .int .i64 x.k :: .int .u64 x.n :: .string x.d :: itCells r
theorem itCells_len : ∀ l : List It, (itCells l).length = l.length * 3
  | [] => rfl
  | x :: r => by simp [itCells, itCells_len r]; omega
theorem itCells_app : ∀ a b : List It, itCells (a ++ b) = itCells a ++ itCells b
  | [], b => rfl
  | x :: r, b => by simp [itCells, itCells_app r b]
theorem itCells_at : ∀ (l : List It) (i : Nat) (h : i < l.length), (itCells l)[i * 3]? = some (.int .i64 l[i].k) ∧ (itCells l)[i * 3 + 1]? = some (.int .u64 l[i].n) ∧ (itCells l)[i * 3 + 2]? = some (.string l[i].d)
  | x :: r, 0, _ => ⟨rfl, rfl, rfl⟩
  | x :: r, i + 1, h => by
    have ih := itCells_at r i (by simpa using h)
    have e0 : (i + 1) * 3 = i * 3 + 1 + 1 + 1 := by omega
    have e1 : (i + 1) * 3 + 1 = i * 3 + 1 + 1 + 1 + 1 := by omega
    have e2 : (i + 1) * 3 + 2 = i * 3 + 2 + 1 + 1 + 1 := by omega
    refine ⟨?_, ?_, ?_⟩
    · rw [e0, itCells, List.getElem?_cons_succ, List.getElem?_cons_succ, List.getElem?_cons_succ]; exact ih.1
    · rw [e1, itCells, List.getElem?_cons_succ, List.getElem?_cons_succ, List.getElem?_cons_succ]; exact ih.2.1
    · rw [e2, itCells, List.getElem?_cons_succ, List.getElem?_cons_succ, List.getElem?_cons_succ]; exact ih.2.2
theorem itCells_one : ∀ (l : List It), ∀ u ∈ itCells l, u.oneCell' = true
  | [], u, h => by cases h
  | x :: r, u, h => by
    simp only [itCells, List.mem_cons] at h
    rcases h with rfl | rfl | rfl | h
    · rfl
    · rfl
    · rfl
    · exact itCells_one r u h
/-- the cells of a slice of items, one after the other -/
theorem itCells_src {w : World} {b off : Nat} : ∀ (l : List It) (o : Nat), (∀ i (h : i < l.length), w.cell? ⟨b, off + (o + i * 3), none⟩ = some (.int .i64 l[i].k) ∧ w.cell? ⟨b, off + (o + i * 3 + 1), none⟩ = some (.int .u64 l[i].n) ∧ w.cell? ⟨b, off + (o + i * 3 + 2), none⟩ = some (.string l[i].d)) →
    ∀ j u, (itCells l)[j]? = some u → w.cell? ⟨b, off + (o + j), none⟩ = some u
  | [], _, _, j, u, h => by simp [itCells] at h
  | x :: r, o, hc, j, u, h => by
    have h0 := hc 0 (by simp)
    match j, h with
    | 0, h => simp only [itCells, List.getElem?_cons_zero, Option.some.injEq] at h; subst h; simpa using h0.1
    | 1, h => simp only [itCells, List.getElem?_cons_succ, List.getElem?_cons_zero, Option.some.injEq] at h; subst h; simpa using h0.2.1
    | 2, h => simp only [itCells, List.getElem?_cons_succ, List.getElem?_cons_zero, Option.some.injEq] at h; subst h; simpa using h0.2.2
    | j + 3, h =>
      simp only [itCells, List.getElem?_cons_succ] at h
      have ih := itCells_src r (o + 3) (fun i hi => by
        have := hc (i + 1) (by simp; omega)
        simp only [List.getElem_cons_succ] at this
        have e : o + (i + 1) * 3 = o + 3 + i * 3 := by omega
        rw [e] at this
        exact this) j u h
      have e : o + (j + 3) = o + 3 + j := by omega
      rw [e]; exact ih

theorem itemsAt_src {w : World} {B b off cap : Nat} {l : List It} (h : ItemsAt w B (.slice (some ⟨b, off, none⟩) l.length cap) l) (hne : l ≠ []) : b < B ∧ ∀ j u, (itCells l)[j]? = some u → w.cell? ((⟨b, off, none⟩ : Addr).add j) = some u := by
  rcases h.form with ⟨h0, _⟩ | ⟨b2, off2, cap2, hv, hlt, hc⟩
  · cases h0
  · cases hv
    refine ⟨hlt, fun j u hj => ?_⟩
    have e : (⟨b, off, none⟩ : Addr).add j = ⟨b, off + j, none⟩ := by unfold Addr.add; split <;> simp_all
    rw [e]
    have := itCells_src (w := w) (b := b) (off := off) l 0 (fun i hi => by simpa [Nat.add_assoc] using hc i hi) j u hj
    simpa using this

theorem itemsAt_own {w : World} {base g n cap : Nat} {l : List It} (h : w.ownsRow base 58 3 (.slice (some ⟨g, 0, none⟩) n cap) n (itCells l)) (hok : ∀ x ∈ l, 0 ≤ x.n ∧ x.d.size ≤ maxLen) (hlen : l.length ≤ 1000000000000000) : ItemsAt w w.heap.size (.slice (some ⟨g, 0, none⟩) n cap) l := by
  have hn : n = l.length := by have h1 := h.1; rw [itCells_len] at h1; omega
  subst hn
  have hg := (h.lt g rfl).2
  refine ⟨.inr ⟨g, 0, cap, rfl, hg, fun i hi => ?_⟩, hok, hlen⟩
  have hc := itCells_at l i hi
  simp only [Nat.zero_add]
  exact ⟨by rw [h.cellAt _ (by omega)]; exact hc.1, by rw [h.cellAt _ (by omega)]; exact hc.2.1, by rw [h.cellAt _ (by omega)]; exact hc.2.2⟩

/-- append(a, s...) of items, a the call's own -/
theorem app_items {ops : Array Oper} {rest : List Oper} {o : Oper} {a : Act} {Q : Exit → Act → World → Prop} {w : World} (hgd : o.guard = none) (s x : Operand)
    (ho : o.op = .call { callee := .builtin .append, args := #[s, x], argTypes := #[22, 22] })
    (base : Nat) (v : Value) (n : Nat) (xs : List It) (l : List It) (B b off cap : Nat) (hown : w.ownsRow base 58 3 v n (itCells xs)) (hs : a.eval s = v)
    (hI : ItemsAt w B (.slice (some ⟨b, off, none⟩) l.length cap) l) (hx : a.eval x = .slice (some ⟨b, off, none⟩) l.length cap) (hne : l ≠ []) (hn : n ≤ 1000000) (hl : l.length ≤ 1000000) (hb : base ≤ w.heap.size)
    (h : ∀ v' w', w'.ownsRow base 58 3 v' (n + l.length) (itCells (xs ++ l)) → Below base w w' → wpList Tryd.prog ops Q rest (a.put o.dst v') w') :
    wpList Tryd.prog ops Q (o :: rest) a w := by
  obtain ⟨i0, hi, hz0, hz1, hz2⟩ := info_parts info58
  refine wpList_append_own _ hgd s x 22 ho base 58 i0 _ 3 32 Tryd.underlying22 hi hz0 hz1 hz2 rfl (by decide) v n _ hs hown ⟨b, off, none⟩ l.length cap (itCells l) hx (itCells_len l) (itemsAt_src hI hne).2 (itCells_one l) (by unfold maxLen; omega) (by omega) hb ?_
  intro v' w' h1 h2 _
  rw [← itCells_app] at h1
  exact h v' w' h1 (below_of_grown hown hb h2)

/-- a slice of slices of items -/
structure ValsAt (w : World) (B cb : Nat) (ls : List (List It)) : Prop where
  lt : cb < B
  cell : ∀ i (h : i < ls.length), ∃ b off cap, w.cell? ⟨cb, i, none⟩ = some (.slice (some ⟨b, off, none⟩) ls[i].length cap) ∧ ItemsAt w B (.slice (some ⟨b, off, none⟩) ls[i].length cap) ls[i]
  ne : ∀ l ∈ ls, l ≠ []
theorem ValsAt.below {w w' : World} {B cb : Nat} {ls : List (List It)} (h : ValsAt w B cb ls) (hb : Below B w w') : ValsAt w' B cb ls :=
  ⟨h.lt, fun i hi => by
    obtain ⟨b, off, cap, h1, h2⟩ := h.cell i hi
    exact ⟨b, off, cap, (hb.cell (p := ⟨cb, i, none⟩) h.lt).trans h1, h2.below hb⟩, h.ne⟩
theorem ValsAt.mono {w : World} {B B' cb : Nat} {ls : List (List It)} (h : ValsAt w B cb ls) (hB : B ≤ B') : ValsAt w B' cb ls :=
  ⟨Nat.lt_of_lt_of_le h.lt hB, fun i hi => by
    obtain ⟨b, off, cap, h1, h2⟩ := h.cell i hi
    refine ⟨b, off, cap, h1, ⟨?_, h2.ok, h2.len⟩⟩
    rcases h2.form with h0 | ⟨b2, off2, cap2, hv, hlt, hc⟩
    · exact .inl h0
    · exact .inr ⟨b2, off2, cap2, hv, Nat.lt_of_lt_of_le hlt hB, hc⟩, h.ne⟩
def total (ls : List (List It)) : Nat := ls.flatten.length
theorem total_take {ls : List (List It)} {j : Nat} (h : j < ls.length) : total (ls.take (j + 1)) = total (ls.take j) + ls[j].length := by
  rw [total, List.take_succ_eq_append_getElem h, List.flatten_append]; simp [total]
theorem total_le (ls : List (List It)) (j : Nat) : total (ls.take j) ≤ total ls := by
  have e : ls.flatten = (ls.take j).flatten ++ (ls.drop j).flatten := by rw [← List.flatten_append, List.take_append_drop]
  unfold total
  rw [e, List.length_append]
  omega
theorem flat_take {ls : List (List It)} {j : Nat} (h : j < ls.length) : (ls.take (j + 1)).flatten = (ls.take j).flatten ++ ls[j] := by
  rw [List.take_succ_eq_append_getElem h, List.flatten_append]; simp

set_option maxRecDepth 100000 in
set_option maxHeartbeats 1000000 in
theorem concat_any (cb cap : Nat) (ls : List (List It)) (w : World) (hV : ValsAt w w.heap.size cb ls) (h1 : 1 ≤ total ls) (h2 : total ls ≤ 1000000) (hn : ls.length ≤ 1000000) :
    Calls Tryd.prog 74 #[.slice (some ⟨cb, 0, none⟩) ls.length cap] w fun e w' => ∃ v, e = .returned v ∧ w'.ownsRow w.heap.size 58 3 v (total ls) (itCells ls.flatten) ∧ Below w.heap.size w w' := by
  have HV := Lib.hid hV
  have HG := Lib.hid (grow_nil (total ls) w h1 h2)
  clear hV
  go_enter Tryd.func74, Tryd.ntmps74
  go_wp2_with fail
  go_loop [3, 11] (fun s i => ∃ j : Nat, j ≤ ls.length ∧ i = .int .i64 j ∧ s = .int .i64 (total (ls.take j))) (fun _ i => ls.length - (intOf i).toNat)
  case atStart => exact ⟨0, by omega, rfl, rfl⟩
  case round =>
    obtain ⟨j, hj, rfl, rfl⟩ := hrel
    have htl := total_le ls j
    by_cases hlt : j < ls.length
    · obtain ⟨b, off, c2, hc, hI⟩ := HV.out.cell j hlt
      have htk := total_take hlt
      have htl2 := total_le ls (j + 1)
      have hlj : ls[j].length ≤ 1000000 := by omega
      have HTK := Lib.hid htk
      have HI := Lib.hid hI
      clear htk hI
      go_wp2
      go_round
      case rel => exact ⟨j + 1, by omega, by go_num, by rw [HTK.out]; go_num⟩
      case measure => simp [intOf]; omega
    · have hjl : j = ls.length := by omega
      have ht : total (ls.take j) = total ls := by rw [hjl, List.take_length]
      rw [ht]
      clear ht hjl htl
      go_wp2_with (go_at_call 86; refine HG.out.mono ?_; rintro e w1 ⟨c1, rfl, ho1, hb1⟩)
      have HB1 := Lib.hid hb1
      have HO1 := Lib.hid ho1
      clear ho1 hb1
      go_loopw [6, 27] (fun v i wr => ∃ j : Nat, j ≤ ls.length ∧ i = .int .i64 j ∧ wr.ownsRow w.heap.size 58 3 v (total (ls.take j)) (itCells (ls.take j).flatten) ∧ Below w.heap.size w wr) (fun _ i _ => ls.length - (intOf i).toNat)
      case atStart => exact ⟨0, by omega, rfl, by simpa [total, itCells] using HO1.out, HB1.out⟩
      case round =>
        obtain ⟨k, hk, rfl, hok, hbk⟩ := hrel
        have HO := Lib.hid hok
        have HB := Lib.hid hbk
        have hsz := hbk.size
        clear hok hbk
        by_cases hlt : k < ls.length
        · obtain ⟨b, off, c2, hc, hI⟩ := HV.out.cell k hlt
          have q := (HB.out.cell (p := ⟨cb, k, none⟩) HV.out.lt).trans hc
          have htk := total_take hlt
          have htl1 := total_le ls k
          have htl2 := total_le ls (k + 1)
          have hlj : ls[k].length ≤ 1000000 := by omega
          have hne := HV.out.ne ls[k] (List.getElem_mem hlt)
          have hft := flat_take hlt
          have hI2 := hI.below HB.out
          have HTK := Lib.hid htk
          have HFT := Lib.hid hft
          have HI := Lib.hid hI2
          have HNE := Lib.hid hne
          clear htk hft hI hI2 hne hc
          go_wp2_with (at_builtin; refine app_items rfl _ _ rfl w.heap.size _ _ _ ls[k] _ _ _ _ HO.out rfl HI.out rfl HNE.out (by omega) hlj hsz ?_; intro v2 w2 ho2 hb2)
          go_roundw
          case rel => exact ⟨k + 1, by omega, by go_num, by rw [HTK.out, HFT.out]; exact ho2, HB.out.trans hb2⟩
          case measure => simp [intOf]; omega
        · have hkl : k = ls.length := by omega
          go_wp2
          go_ret
          exact ⟨_, rfl, by have h := HO.out; rwa [hkl, List.take_length] at h, HB.out⟩
end Go.Proofs.YtepinmeidjlmmaaDoor
