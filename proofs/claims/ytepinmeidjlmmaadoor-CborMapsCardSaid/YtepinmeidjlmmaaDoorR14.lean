/- Joined: U6, U7, V1, V2. -/
import Derived.Test.YtepinmeidjlmmaaDoorR13
import Derived.Laws.AppendOwnNone
/- The law CborBack, walked. -/
namespace Go.Proofs.YtepinmeidjlmmaaDoor
open Go.RowKit
set_option maxRecDepth 100000

/-- append(b, u...) of bytes, b the call's own -/
theorem app_bytes {ops : Array Oper} {rest : List Oper} {o : Oper} {a : Act} {Q : Exit → Act → World → Prop} {w : World} (hgd : o.guard = none) (s x : Operand)
    (ho : o.op = .call { callee := .builtin .append, args := #[s, x], argTypes := #[25, 25] })
    (base : Nat) (v : Value) (n : Nat) (xs : List Int) (A : Option Addr) (m cap : Nat) (zs : List Int) (hown : w.ownsRow base 5 1 v n (bv xs)) (hs : a.eval s = v)
    (hB : Bys w A m zs) (hnone : A = none → m = 0 ∧ cap = 0) (hx : a.eval x = .slice A m cap) (hn : n + m ≤ 100000000000000) (hb : base ≤ w.heap.size)
    (h : ∀ v' w', w'.ownsRow base 5 1 v' (n + m) (bv (xs ++ zs)) → Below base w w' → wpList Tryd.prog ops Q rest (a.put o.dst v') w') :
    wpList Tryd.prog ops Q (o :: rest) a w := by
  obtain ⟨i0, hi, hz0, hz1, hz2⟩ := info_parts info5
  cases A with
  | none =>
    obtain ⟨rfl, rfl⟩ := hnone rfl
    have hz : zs = [] := List.eq_nil_of_length_eq_zero hB.len
    subst hz
    refine wpList_append_own_none hgd s x 25 ho base 5 i0 1 Tryd.underlying25 hi v n (bv xs) hs hown hx ?_
    exact h v w (by rw [List.append_nil]; exact hown) (Below.refl _ _)
  | some ad =>
    refine wpList_append_own _ hgd s x 25 ho base 5 i0 (.int .u8 0) 1 1 Tryd.underlying25 hi hz0 hz1 hz2 rfl (by decide) v n (bv xs) hs hown ad m cap (bv zs) hx (by rw [bv_len, hB.len, Nat.mul_one]) ?_ ?_ (by unfold maxLen; omega) (by omega) hb ?_
    · intro j u hj
      simp only [bv, List.getElem?_map, Option.map_eq_some_iff] at hj
      obtain ⟨z, hz, rfl⟩ := hj
      have hjm : j < m := by
        have := hB.len
        rcases Nat.lt_or_ge j zs.length with h1 | h1
        · omega
        · rw [List.getElem?_eq_none h1] at hz; cases hz
      obtain ⟨a2, e, hc⟩ := hB.at_ j hjm
      cases e
      rw [hc]
      simp [List.getD, hz]
    · intro u hu
      simp only [bv, List.mem_map] at hu
      obtain ⟨z, _, rfl⟩ := hu
      rfl
    · intro v' w' h1 h2 _
      rw [← bv_app] at h1
      exact h v' w' h1 (below_of_grown hown hb h2)

set_option maxHeartbeats 2000000 in
theorem back_dark (A R : Option Addr) (n cap M rc : Nat) (w : World) (hM : 300 < M) (ht : Tabs w) :
    Calls Tryd.prog 6 #[.slice A n cap, .slice R M rc] w fun e w' => e = .returned (.bool true) ∧ Below w.heap.size w w' := by
  have hM2 : (300 : Int) < (M : Int) := by omega
  have HT := Lib.hid ht
  clear ht
  go_enter Tryd.func6, Tryd.ntmps6
  go_wp2_with (go_at_call 15; refine (awake_any _ HT.out).mono ?_; rintro e w1 ⟨rfl, hb1⟩)
  go_ret
  exact ⟨rfl, hb1⟩

set_option maxHeartbeats 2000000 in
theorem back_law (A R : Option Addr) (n cap M rc : Nat) (l rs : List Int) (w : World) (h : Ints w A n l) (hn : n ≤ 9223372036854775807) (hr : Bys w R M rs) (hnone : R = none → M = 0 ∧ rc = 0) (hM : M ≤ 300) (ht : Tabs w) :
    Calls Tryd.prog 6 #[.slice A n cap, .slice R M rc] w fun e w' => e = .returned (.bool true) ∧ Below w.heap.size w w' := by
  have hM2 : ¬ (300 : Int) < (M : Int) := by omega
  have HC := Lib.hid (Tree_any A n cap l w h hn)
  have HT := Lib.hid ht
  have HBR := Lib.hid hr
  have HNO := Lib.hid hnone
  obtain ⟨N, hN⟩ : ∃ N, (treeB l).length = N := ⟨_, rfl⟩
  have hb := treeB_len l
  rw [hN] at hb
  obtain ⟨hb1, hb2⟩ := hb
  have HBACK := Lib.hid (treeB_back l rs (N := N + M) (by rw [List.length_append, hN, hr.len]))
  rw [hN] at HBACK
  have HR := Lib.hid (treeB_rng l)
  have HR2 := Lib.hid (show ∀ z ∈ treeB l ++ rs, 0 ≤ z ∧ z ≤ 255 from fun z hz => by
    rcases List.mem_append.1 hz with hz | hz
    · exact treeB_rng l z hz
    · exact hr.rng z hz)
  have HN := Lib.hid hN
  clear h ht hN hr hnone
  go_enter Tryd.func6, Tryd.ntmps6
  go_wp2_with (go_at_call 20; refine HC.out.mono ?_; rintro e w1 ⟨g, c, rfl, ho, hb⟩)
  have HI := Lib.hid (tree_items ho)
  have HB1 := Lib.hid hb
  clear ho hb
  refine (encode_good (treeL l) _ w1 HI.out (HT.out.later HB1.out) (tree_valid l)).mono ?_
  rintro e w2 ⟨v2, rfl, ho2, hb2'⟩
  rw [show (encAll (treeL l)).length = N from HN.out] at ho2
  obtain ⟨A2, c2, hv2, hby, hle, hcm⟩ := own_row_bys ho2 HR.out
  subst hv2
  have HBY := Lib.hid hby
  have HB12 := Lib.hid hb2'
  have HB2 := Lib.hid (HB1.out.trans (hb2'.mono HB1.out.size))
  have hs2 := HB2.out.size
  clear ho2 hb2' hby
  have hA2 : A2 = none → N = 0 ∧ c2 = 0 := by
    intro e
    obtain ⟨a, e2, _⟩ := HBY.out.at_ 0 (by omega)
    rw [e] at e2; cases e2
  have HA2 := Lib.hid hA2
  clear hA2
  go_wp2_with (first
    | (at_builtin; (refine app_bytes rfl _ _ rfl w2.heap.size _ 0 [] A2 N c2 (treeB l) (World.ownsRow_nil _ _ _ _) rfl HBY.out HA2.out rfl (by omega) (Nat.le_refl _) ?_); intro v3 w3 ho3 hb3; have HO3 := Lib.hid ho3; have HB3 := Lib.hid hb3; have hs3 := hb3.size; clear ho3 hb3)
    | (at_builtin; (refine app_bytes rfl _ _ rfl w2.heap.size _ (0 + N) ([] ++ treeB l) R M rc rs HO3.out rfl (HBR.out.below (HB2.out.trans (HB3.out.mono hs2))) HNO.out rfl (by omega) hs3 ?_); intro v4 w4 ho4 hb4)
    | fail)
  rw [Nat.zero_add, List.nil_append] at ho4
  obtain ⟨A4, c4, hv4, hby4, hle4, hcm4⟩ := own_row_bys ho4 HR2.out
  subst hv4
  have HB24 := Lib.hid (HB3.out.trans hb4)
  have HB4 := Lib.hid (HB2.out.trans (HB24.out.mono hs2))
  have hs4 := HB24.out.size
  have hD := decode_any A4 (N + M) c4 (treeB l ++ rs) w4 hby4 hle4 hcm4 (by omega) (HT.out.later HB4.out)
  unfold DecP at hD
  rw [HBACK.out] at hD
  dsimp only at hD
  clear ho4 hb4 hby4
  refine hD.mono ?_
  rintro e w5 ⟨v5, rfl, ho5, hb5, _, _, _⟩
  have hI5 := items_own ho5 (fun x hx => ⟨(treeL_fine l x hx).1, Nat.le_trans (treeL_fine l x hx).2 (by decide)⟩) (Nat.le_trans (treeL_len l) (by decide))
  have HI5 := Lib.hid hI5
  have HB15 := Lib.hid ((HB12.out.trans (HB24.out.mono HB12.out.size)).trans (hb5.mono (Nat.le_trans HB12.out.size hs4)))
  have HI1 := Lib.hid (HI.out.below HB15.out)
  have HB5 := Lib.hid (HB1.out.trans (HB15.out.mono HB1.out.size))
  have HBK := Lib.hid (fun k : Nat => (HB5.out.trans ⟨rfl, rfl, rfl, Nat.le_refl _, fun _ _ => rfl⟩ : Below w.heap.size w (w5.drewN k)))
  clear hD ho5 hb5 hI5
  go_wp2_with (first
    | (go_at_call 24; refine (same_any _ _ _ _ (treeL l) _ HI1.out HI5.out).mono ?_; rintro e w6 ⟨rfl, k, rfl⟩)
    | (go_at_call 15; refine (awake_any _ (HT.out.later (HBK.out k))).mono ?_; rintro e w7 ⟨rfl, hb7⟩)
    | fail)
  go_ret
  exact ⟨rfl, (HBK.out k).trans (hb7.mono HB5.out.size)⟩
end Go.Proofs.YtepinmeidjlmmaaDoor

/- A []byte argument, opened: nil or a row. -/
namespace Go.Proofs.YtepinmeidjlmmaaDoor
open Go.ChangeShapes Go.WideShapes Go.ChangeAt Go.RowKit
set_option maxRecDepth 100000

theorem open_row {H : Type} {enc : TypeId × Value → H} {W : World} {b0 base : Nat} {r : Reach} {v : Value} {d : DataW H} {ps : List MemPlace} (hval : Value.okWide Tryd.prog W r b0 25 v) (hd : DataW.Trod enc Tryd.prog W base (fun _ => true) true 25 v d ps) :
    ∃ (A : Option Addr) (n cap : Nat) (zs : List Int), v = .slice A n cap ∧ Bys W A n zs ∧ (A = none → n = 0 ∧ cap = 0) ∧ (n ≤ cap ∨ A = none) := by
  obtain ⟨a, len, cap, zs, hv, hl, hr, _, _, hrow⟩ := open_bytes hval hd
  rcases hrow with ⟨rfl, rfl, rfl⟩ | ⟨b, rfl, hle, hc⟩
  · exact ⟨none, 0, 0, zs, hv, ⟨hl, hr, fun i hi => absurd hi (by omega)⟩, fun _ => ⟨rfl, rfl⟩, .inr rfl⟩
  · exact ⟨some b, len, cap, zs, hv, ⟨hl, hr, fun i hi => ⟨b, rfl, hc i hi⟩⟩, (fun h => by cases h), .inl hle⟩
theorem back_any (A R : Option Addr) (n cap M rc : Nat) (l rs : List Int) (w : World) (h : Ints w A n l) (hn : n ≤ 9223372036854775807) (hr : Bys w R M rs) (hnone : R = none → M = 0 ∧ rc = 0) (ht : Tabs w) :
    Calls Tryd.prog 6 #[.slice A n cap, .slice R M rc] w fun e w' => e = .returned (.bool true) ∧ Below w.heap.size w w' := by
  by_cases hM : 300 < M
  · exact back_dark A R n cap M rc w hM ht
  · exact back_law A R n cap M rc l rs w h hn hr hnone (by omega) ht
end Go.Proofs.YtepinmeidjlmmaaDoor

/- A list that was changed in one place: the rows of items. -/
namespace Go.Proofs.YtepinmeidjlmmaaDoor
open Go.RowKit
set_option maxRecDepth 100000

theorem itCells_set_k : ∀ (l : List It) (i : Nat) (h : i < l.length) (k : Int), itCells (l.set i { l[i] with k := k }) = (itCells l).set (i * 3) (.int .i64 k)
  | x :: r, 0, _, k => rfl
  | x :: r, i + 1, h, k => by
    have ih := itCells_set_k r i (by simpa using h) k
    have e : (i + 1) * 3 = i * 3 + 1 + 1 + 1 := by omega
    rw [e]
    simp only [List.set_cons_succ, itCells, List.getElem_cons_succ, ih]
theorem itCells_set_n : ∀ (l : List It) (i : Nat) (h : i < l.length) (n : Int), itCells (l.set i { l[i] with n := n }) = (itCells l).set (i * 3 + 1) (.int .u64 n)
  | x :: r, 0, _, n => rfl
  | x :: r, i + 1, h, n => by
    have ih := itCells_set_n r i (by simpa using h) n
    have e : (i + 1) * 3 + 1 = i * 3 + 1 + 1 + 1 + 1 := by omega
    rw [e]
    simp only [List.set_cons_succ, itCells, List.getElem_cons_succ, ih]
theorem itCells_set_d : ∀ (l : List It) (i : Nat) (h : i < l.length) (d : ByteArray), itCells (l.set i { l[i] with d := d }) = (itCells l).set (i * 3 + 2) (.string d)
  | x :: r, 0, _, d => rfl
  | x :: r, i + 1, h, d => by
    have ih := itCells_set_d r i (by simpa using h) d
    have e : (i + 1) * 3 + 2 = i * 3 + 2 + 1 + 1 + 1 := by omega
    rw [e]
    simp only [List.set_cons_succ, itCells, List.getElem_cons_succ, ih]
theorem itCells_set : ∀ (l : List It) (i : Nat) (y : It), i < l.length → itCells (l.set i y) = (((itCells l).set (i * 3) (.int .i64 y.k)).set (i * 3 + 1) (.int .u64 y.n)).set (i * 3 + 2) (.string y.d)
  | x :: r, 0, y, _ => rfl
  | x :: r, i + 1, y, h => by
    have ih := itCells_set r i y (by simpa using h)
    have e0 : (i + 1) * 3 = i * 3 + 1 + 1 + 1 := by omega
    have e1 : (i + 1) * 3 + 1 = i * 3 + 1 + 1 + 1 + 1 := by omega
    have e2 : (i + 1) * 3 + 2 = i * 3 + 2 + 1 + 1 + 1 := by omega
    rw [e2, e1, e0]
    simp only [List.set_cons_succ, itCells, ih]
/-- what a list that was changed still is -/
def Tame (x : It) : Prop := 0 ≤ x.n ∧ x.n < 18446744073709551616 ∧ x.d.size ≤ 1100
theorem tame_set {l : List It} {i : Nat} {y : It} (h : ∀ x ∈ l, Tame x) (hy : Tame y) : ∀ x ∈ l.set i y, Tame x := by
  intro x hx
  rcases List.mem_or_eq_of_mem_set hx with hx | rfl
  · exact h x hx
  · exact hy
def SpoilP (w : World) (e : Ending) (w' : World) : Prop := ∃ (ys : List It) (A : Option Addr) (c : Nat), e = .returned (.slice A ys.length c) ∧ ItemsAt w' w'.heap.size (.slice A ys.length c) ys ∧ Below w.heap.size w w' ∧ (∀ y ∈ ys, Tame y) ∧ ys.length ≤ 300 ∧ ys.length ≤ c
theorem own_cap9 {w : World} {base e size g n c : Nat} {xs : List Value} (h : w.ownsRow base e size (.slice (some ⟨g, 0, none⟩) n c) n xs) : n ≤ c := by
  rcases h.2 with ⟨hv, _⟩ | ⟨g', cap, cur, hv, hb, hh, hle, _⟩
  · cases hv
  · cases hv; exact hle
theorem spoil_end {w w' : World} {g c : Nat} {ys : List It} (h : w'.ownsRow w.heap.size 58 3 (.slice (some ⟨g, 0, none⟩) ys.length c) ys.length (itCells ys)) (hb : Below w.heap.size w w') (ht : ∀ y ∈ ys, Tame y) (hl : ys.length ≤ 300) : SpoilP w (.returned (.slice (some ⟨g, 0, none⟩) ys.length c)) w' :=
  ⟨ys, _, c, rfl, itemsAt_own h (fun x hx => ⟨(ht x hx).1, by have := (ht x hx).2.2; unfold maxLen; omega⟩) (by omega), hb, ht, hl, own_cap9 h⟩

theorem ItemsAt.take {w : World} {B g c i : Nat} {l : List It} (h : ItemsAt w B (.slice (some ⟨g, 0, none⟩) l.length c) l) (hi : i ≤ l.length) : ItemsAt w B (.slice (some ⟨g, 0, none⟩) i c) (l.take i) := by
  have e9 : (l.take i).length = i := by simp; omega
  refine ⟨?_, fun x hx => h.ok x (List.mem_of_mem_take hx), by rw [e9]; exact Nat.le_trans hi h.len⟩
  rcases h.form with ⟨h0, _⟩ | ⟨b, off, cap', hv, hlt, hc⟩
  · cases h0
  · cases hv
    exact .inr ⟨g, 0, c, by rw [e9], hlt, fun j hj => by
      have hj2 : j < l.length := by rw [e9] at hj; omega
      simpa using hc j hj2⟩
theorem spoil_end' {w w' : World} {g c n : Nat} {ys : List It} (hn : ys.length = n) (h : w'.ownsRow w.heap.size 58 3 (.slice (some ⟨g, 0, none⟩) n c) n (itCells ys)) (hb : Below w.heap.size w w') (ht : ∀ y ∈ ys, Tame y) (hl : n ≤ 300) : SpoilP w (.returned (.slice (some ⟨g, 0, none⟩) n c)) w' := by
  subst hn
  exact spoil_end h hb ht hl
theorem own_pos {w : World} {base n : Nat} {v : Value} {xs : List Value} (h : w.ownsRow base 58 3 v n xs) (h0 : 0 < n) : ∃ g cap, v = .slice (some ⟨g, 0, none⟩) n cap ∧ base ≤ g ∧ g < w.heap.size ∧ n ≤ cap ∧ ∀ j, w.frozen? ⟨g, j, none⟩ = false := by
  rcases h.2 with ⟨hv, hz⟩ | ⟨g, cap, cur, hv, hb, hh, hle, _⟩
  · omega
  · exact ⟨g, cap, hv, hb, lt_of_heap hh, hle, fun j => by simp [World.frozen?, hh]⟩

set_option maxHeartbeats 2000000 in
theorem spoil0 (b off cap m : Nat) (l : List It) (w : World) (hI : ItemsAt w w.heap.size (.slice (some ⟨b, off, none⟩) l.length cap) l) (ht : ∀ x ∈ l, Tame x) (hne : l ≠ []) (hl : l.length ≤ 250) (hc : m % 16 = 0) :
    Calls Tryd.prog 21 #[.slice (some ⟨b, off, none⟩) l.length cap, .int .i64 m] w (SpoilP w) := by
  obtain ⟨k, hk⟩ : ∃ k, m / 16 % 65536 = k := ⟨_, rfl⟩
  have e2 : (m : Int) / 16 % 65536 = k := by omega
  obtain ⟨n, hn⟩ : ∃ n, l.length = n := ⟨_, rfl⟩
  have hn0 : 0 < n := by rw [← hn]; exact List.length_pos_iff.2 hne
  obtain ⟨i, hi⟩ : ∃ i, k % n = i := ⟨_, rfl⟩
  have hlt : i < n := by rw [← hi]; exact Nat.mod_lt _ hn0
  have e1 : (m : Int) % 16 = 0 := by omega
  have hcell := itCells_at l i (by omega)
  have HI := Lib.hid hI
  have HT := Lib.hid ht
  have HNE := Lib.hid hne
  rw [hn] at HI hl ⊢
  have and15 : bits .and .i64 m 15 = (m : Int) % 16 := bits_low 4 (by decide) m
  clear hI ht hne
  go_enter Tryd.func21, Tryd.ntmps21
  go_wp2_with (first
    | (at_builtin; (refine app_items3 rfl _ _ rfl w.heap.size _ 0 [] l w.heap.size b off cap (World.ownsRow_nil _ _ _ _) rfl (by rw [hn]; exact HI.out) (by rw [hn]; rfl) HNE.out (by omega) (by omega) (Nat.le_refl _) ?_); intro v1 w1 ho1 hb1 _; (rw [Nat.zero_add, List.nil_append, hn] at ho1); obtain ⟨g, c1, hv1, hg0, hg1, hgc, hfr⟩ := own_pos ho1 hn0; subst hv1; have q0 := (ho1.cellAt (i * 3) (by omega)).trans hcell.1; have f0 := hfr (i * 3); have HO1 := Lib.hid ho1; have HB1 := Lib.hid hb1; clear ho1 hb1 hfr)
    | fail)
  go_ret
  subst hn
  have ho := (World.ownsRow.stored HO1.out (i * 3) (.int .i64 ((k : Int) / 8 % 11 - 1))).1
  rw [← itCells_set_k l i hlt] at ho
  have hy : Tame { l[i] with k := (k : Int) / 8 % 11 - 1 } := HT.out l[i] (List.getElem_mem hlt)
  exact spoil_end' (by simp) ho (HB1.out.setCell hg0 _) (tame_set HT.out hy) (by omega)

set_option maxHeartbeats 2000000 in
theorem spoil3 (b off cap m : Nat) (l : List It) (w : World) (hI : ItemsAt w w.heap.size (.slice (some ⟨b, off, none⟩) l.length cap) l) (ht : ∀ x ∈ l, Tame x) (hne : l ≠ []) (hl : l.length ≤ 250) (hc : m % 16 = 3) :
    Calls Tryd.prog 21 #[.slice (some ⟨b, off, none⟩) l.length cap, .int .i64 m] w (SpoilP w) := by
  obtain ⟨k, hk⟩ : ∃ k, m / 16 % 65536 = k := ⟨_, rfl⟩
  have e2 : (m : Int) / 16 % 65536 = k := by omega
  obtain ⟨n, hn⟩ : ∃ n, l.length = n := ⟨_, rfl⟩
  have hn0 : 0 < n := by rw [← hn]; exact List.length_pos_iff.2 hne
  obtain ⟨i, hi⟩ : ∃ i, k % n = i := ⟨_, rfl⟩
  have hlt : i < n := by rw [← hi]; exact Nat.mod_lt _ hn0
  have e1 : (m : Int) % 16 = 3 := by omega
  have hcell := itCells_at l i (by omega)
  have HI := Lib.hid hI
  have HT := Lib.hid ht
  have HNE := Lib.hid hne
  rw [hn] at HI hl ⊢
  have and15 : bits .and .i64 m 15 = (m : Int) % 16 := bits_low 4 (by decide) m
  clear hI ht hne
  go_enter Tryd.func21, Tryd.ntmps21
  go_wp2_with (first
    | (at_builtin; (refine app_items3 rfl _ _ rfl w.heap.size _ 0 [] l w.heap.size b off cap (World.ownsRow_nil _ _ _ _) rfl (by rw [hn]; exact HI.out) (by rw [hn]; rfl) HNE.out (by omega) (by omega) (Nat.le_refl _) ?_); intro v1 w1 ho1 hb1 _; (rw [Nat.zero_add, List.nil_append, hn] at ho1); obtain ⟨g, c1, hv1, hg0, hg1, hgc, hfr⟩ := own_pos ho1 hn0; subst hv1; have HO1 := Lib.hid ho1; have HB1 := Lib.hid hb1; clear ho1 hb1 hfr)
    | fail)
  go_ret
  rw [hi]
  subst hn
  have hI1 := itemsAt_own HO1.out (fun x hx => ⟨(HT.out x hx).1, by have := (HT.out x hx).2.2; unfold maxLen; omega⟩) (by omega)
  have e9 : (l.take i).length = i := by simp; omega
  exact ⟨l.take i, some ⟨g, 0, none⟩, c1, by rw [e9]; rfl, by rw [e9]; exact hI1.take (by omega), HB1.out, fun y hy => HT.out y (List.mem_of_mem_take hy), by omega, by omega⟩

set_option maxHeartbeats 2000000 in
theorem spoil4 (b off cap m : Nat) (l : List It) (w : World) (hI : ItemsAt w w.heap.size (.slice (some ⟨b, off, none⟩) l.length cap) l) (ht : ∀ x ∈ l, Tame x) (hne : l ≠ []) (hl : l.length ≤ 250) (hc : m % 16 = 4) :
    Calls Tryd.prog 21 #[.slice (some ⟨b, off, none⟩) l.length cap, .int .i64 m] w (SpoilP w) := by
  obtain ⟨k, hk⟩ : ∃ k, m / 16 % 65536 = k := ⟨_, rfl⟩
  have e2 : (m : Int) / 16 % 65536 = k := by omega
  obtain ⟨n, hn⟩ : ∃ n, l.length = n := ⟨_, rfl⟩
  have hn0 : 0 < n := by rw [← hn]; exact List.length_pos_iff.2 hne
  obtain ⟨i, hi⟩ : ∃ i, k % n = i := ⟨_, rfl⟩
  have hlt : i < n := by rw [← hi]; exact Nat.mod_lt _ hn0
  have e1 : (m : Int) % 16 = 4 := by omega
  have hcell := itCells_at l i (by omega)
  have HI := Lib.hid hI
  have HT := Lib.hid ht
  have HNE := Lib.hid hne
  rw [hn] at HI hl ⊢
  have and15 : bits .and .i64 m 15 = (m : Int) % 16 := bits_low 4 (by decide) m
  clear hI ht hne
  go_enter Tryd.func21, Tryd.ntmps21
  go_wp2_with (first
    | (at_builtin; (refine app_items3 rfl _ _ rfl w.heap.size _ 0 [] l w.heap.size b off cap (World.ownsRow_nil _ _ _ _) rfl (by rw [hn]; exact HI.out) (by rw [hn]; rfl) HNE.out (by omega) (by omega) (Nat.le_refl _) ?_); intro v1 w1 ho1 hb1 _; (rw [Nat.zero_add, List.nil_append, hn] at ho1); obtain ⟨g, c1, hv1, hg0, hg1, hgc, hfr⟩ := own_pos ho1 hn0; subst hv1; have HO1 := Lib.hid ho1; have HB1 := Lib.hid hb1; clear ho1 hb1 hfr)
    | (at_builtin; (refine app_items3 rfl _ _ rfl w.heap.size _ n l [⟨8, 0, ⟨#[]⟩⟩] (w1.heap.size + 1) w1.heap.size 0 1 (HO1.out.alloc _) rfl (lit_items w1 8 0 (by omega)) rfl (by simp) (by omega) (by simp) (by have := HB1.out.size; simp; omega) ?_); intro v2 w2 ho2 hb2 _)
    | fail)
  go_ret
  obtain ⟨g2, c2, hv2, _⟩ := own_pos ho2 (by simp)
  subst hv2
  have hb3 := (HB1.out.alloc (o := .cells #[.int .i64 8, .int .u64 0, .string ⟨#[]⟩] 58) HB1.out.size).trans hb2
  refine spoil_end' (by rw [List.length_append, hn]) ho2 hb3 (fun y hy => ?_) (by simp; omega)
  rcases List.mem_append.1 hy with hy | hy
  · exact HT.out y hy
  · simp at hy; subst hy; exact ⟨Int.le_refl _, by dsimp only; decide, Nat.le_trans none_small (by decide)⟩

set_option maxHeartbeats 2000000 in
theorem spoil6 (b off cap m : Nat) (l : List It) (w : World) (hI : ItemsAt w w.heap.size (.slice (some ⟨b, off, none⟩) l.length cap) l) (ht : ∀ x ∈ l, Tame x) (hne : l ≠ []) (hl : l.length ≤ 250) (hc : 6 ≤ m % 16) :
    Calls Tryd.prog 21 #[.slice (some ⟨b, off, none⟩) l.length cap, .int .i64 m] w (SpoilP w) := by
  obtain ⟨k, hk⟩ : ∃ k, m / 16 % 65536 = k := ⟨_, rfl⟩
  have e2 : (m : Int) / 16 % 65536 = k := by omega
  obtain ⟨n, hn⟩ : ∃ n, l.length = n := ⟨_, rfl⟩
  have hn0 : 0 < n := by rw [← hn]; exact List.length_pos_iff.2 hne
  obtain ⟨i, hi⟩ : ∃ i, k % n = i := ⟨_, rfl⟩
  have hlt : i < n := by rw [← hi]; exact Nat.mod_lt _ hn0
  obtain ⟨c, hcc⟩ : ∃ c, m % 16 = c := ⟨_, rfl⟩
  have e1 : (m : Int) % 16 = c := by omega
  have d0 : ¬ (c : Int) = 0 := by omega
  have d1 : ¬ (c : Int) = 1 := by omega
  have d2 : ¬ (c : Int) = 2 := by omega
  have d3 : ¬ (c : Int) = 3 := by omega
  have d4 : ¬ (c : Int) = 4 := by omega
  have d5 : ¬ (c : Int) = 5 := by omega
  have hcell := itCells_at l i (by omega)
  have HI := Lib.hid hI
  have HT := Lib.hid ht
  have HNE := Lib.hid hne
  rw [hn] at HI hl ⊢
  have and15 : bits .and .i64 m 15 = (m : Int) % 16 := bits_low 4 (by decide) m
  clear hI ht hne
  go_enter Tryd.func21, Tryd.ntmps21
  go_wp2_with (first
    | (at_builtin; (refine app_items3 rfl _ _ rfl w.heap.size _ 0 [] l w.heap.size b off cap (World.ownsRow_nil _ _ _ _) rfl (by rw [hn]; exact HI.out) (by rw [hn]; rfl) HNE.out (by omega) (by omega) (Nat.le_refl _) ?_); intro v1 w1 ho1 hb1 _; (rw [Nat.zero_add, List.nil_append, hn] at ho1); obtain ⟨g, c1, hv1, hg0, hg1, hgc, hfr⟩ := own_pos ho1 hn0; subst hv1; have HO1 := Lib.hid ho1; have HB1 := Lib.hid hb1; clear ho1 hb1 hfr)
    | fail)
  go_ret
  exact spoil_end' hn HO1.out HB1.out HT.out (by omega)

set_option maxHeartbeats 2000000 in
theorem spoil1_0 (b off cap m : Nat) (l : List It) (w : World) (hI : ItemsAt w w.heap.size (.slice (some ⟨b, off, none⟩) l.length cap) l) (ht : ∀ x ∈ l, Tame x) (hne : l ≠ []) (hl : l.length ≤ 250) (hc : m % 16 = 1) (hj : m / 16 % 65536 / 8 % 6 = 0) :
    Calls Tryd.prog 21 #[.slice (some ⟨b, off, none⟩) l.length cap, .int .i64 m] w (SpoilP w) := by
  obtain ⟨k, hk⟩ : ∃ k, m / 16 % 65536 = k := ⟨_, rfl⟩
  have e2 : (m : Int) / 16 % 65536 = k := by omega
  obtain ⟨n, hn⟩ : ∃ n, l.length = n := ⟨_, rfl⟩
  have hn0 : 0 < n := by rw [← hn]; exact List.length_pos_iff.2 hne
  obtain ⟨i, hi⟩ : ∃ i, k % n = i := ⟨_, rfl⟩
  have hlt : i < n := by rw [← hi]; exact Nat.mod_lt _ hn0
  have e1 : (m : Int) % 16 = 1 := by omega
  have e5 : (k : Int) / 8 % 6 = 0 := by omega
  have hcell := itCells_at l i (by omega)
  have HI := Lib.hid hI
  have HT := Lib.hid ht
  have HNE := Lib.hid hne
  rw [hn] at HI hl ⊢
  have and15 : bits .and .i64 m 15 = (m : Int) % 16 := bits_low 4 (by decide) m
  clear hI ht hne
  go_enter Tryd.func21, Tryd.ntmps21
  go_wp2_with (first
    | (at_builtin; (refine app_items3 rfl _ _ rfl w.heap.size _ 0 [] l w.heap.size b off cap (World.ownsRow_nil _ _ _ _) rfl (by rw [hn]; exact HI.out) (by rw [hn]; rfl) HNE.out (by omega) (by omega) (Nat.le_refl _) ?_); intro v1 w1 ho1 hb1 _; (rw [Nat.zero_add, List.nil_append, hn] at ho1); obtain ⟨g, c1, hv1, hg0, hg1, hgc, hfr⟩ := own_pos ho1 hn0; subst hv1; have q0 := (ho1.cellAt (i * 3 + 1) (by omega)).trans hcell.2.1; have f0 := hfr (i * 3 + 1); have HO1 := Lib.hid ho1; have HB1 := Lib.hid hb1; clear ho1 hb1 hfr)
    | fail)
  go_ret
  subst hn
  have ho := (World.ownsRow.stored HO1.out (i * 3 + 1) (.int .u64 0)).1
  rw [← itCells_set_n l i hlt] at ho
  have hy : Tame { l[i] with n := 0 } := ⟨by dsimp only; decide, by dsimp only; decide, (HT.out l[i] (List.getElem_mem hlt)).2.2⟩
  have hb := HB1.out.setCell (p := ⟨g, i * 3 + 1, none⟩) hg0 (.int .u64 0)
  exact spoil_end' (by simp) (ho.alloc _) (hb.alloc hb.size _) (tame_set HT.out hy) (by omega)

set_option maxHeartbeats 2000000 in
theorem spoil1_1 (b off cap m : Nat) (l : List It) (w : World) (hI : ItemsAt w w.heap.size (.slice (some ⟨b, off, none⟩) l.length cap) l) (ht : ∀ x ∈ l, Tame x) (hne : l ≠ []) (hl : l.length ≤ 250) (hc : m % 16 = 1) (hj : m / 16 % 65536 / 8 % 6 = 1) :
    Calls Tryd.prog 21 #[.slice (some ⟨b, off, none⟩) l.length cap, .int .i64 m] w (SpoilP w) := by
  obtain ⟨k, hk⟩ : ∃ k, m / 16 % 65536 = k := ⟨_, rfl⟩
  have e2 : (m : Int) / 16 % 65536 = k := by omega
  obtain ⟨n, hn⟩ : ∃ n, l.length = n := ⟨_, rfl⟩
  have hn0 : 0 < n := by rw [← hn]; exact List.length_pos_iff.2 hne
  obtain ⟨i, hi⟩ : ∃ i, k % n = i := ⟨_, rfl⟩
  have hlt : i < n := by rw [← hi]; exact Nat.mod_lt _ hn0
  have e1 : (m : Int) % 16 = 1 := by omega
  have e5 : (k : Int) / 8 % 6 = 1 := by omega
  have hcell := itCells_at l i (by omega)
  have HI := Lib.hid hI
  have HT := Lib.hid ht
  have HNE := Lib.hid hne
  rw [hn] at HI hl ⊢
  have and15 : bits .and .i64 m 15 = (m : Int) % 16 := bits_low 4 (by decide) m
  clear hI ht hne
  go_enter Tryd.func21, Tryd.ntmps21
  go_wp2_with (first
    | (at_builtin; (refine app_items3 rfl _ _ rfl w.heap.size _ 0 [] l w.heap.size b off cap (World.ownsRow_nil _ _ _ _) rfl (by rw [hn]; exact HI.out) (by rw [hn]; rfl) HNE.out (by omega) (by omega) (Nat.le_refl _) ?_); intro v1 w1 ho1 hb1 _; (rw [Nat.zero_add, List.nil_append, hn] at ho1); obtain ⟨g, c1, hv1, hg0, hg1, hgc, hfr⟩ := own_pos ho1 hn0; subst hv1; have q0 := (ho1.cellAt (i * 3 + 1) (by omega)).trans hcell.2.1; have f0 := hfr (i * 3 + 1); have HO1 := Lib.hid ho1; have HB1 := Lib.hid hb1; clear ho1 hb1 hfr)
    | fail)
  go_ret
  subst hn
  have ho := (World.ownsRow.stored HO1.out (i * 3 + 1) (.int .u64 1)).1
  rw [← itCells_set_n l i hlt] at ho
  have hy : Tame { l[i] with n := 1 } := ⟨by dsimp only; decide, by dsimp only; decide, (HT.out l[i] (List.getElem_mem hlt)).2.2⟩
  have hb := HB1.out.setCell (p := ⟨g, i * 3 + 1, none⟩) hg0 (.int .u64 1)
  exact spoil_end' (by simp) (ho.alloc _) (hb.alloc hb.size _) (tame_set HT.out hy) (by omega)

set_option maxHeartbeats 2000000 in
theorem spoil1_2 (b off cap m : Nat) (l : List It) (w : World) (hI : ItemsAt w w.heap.size (.slice (some ⟨b, off, none⟩) l.length cap) l) (ht : ∀ x ∈ l, Tame x) (hne : l ≠ []) (hl : l.length ≤ 250) (hc : m % 16 = 1) (hj : m / 16 % 65536 / 8 % 6 = 2) :
    Calls Tryd.prog 21 #[.slice (some ⟨b, off, none⟩) l.length cap, .int .i64 m] w (SpoilP w) := by
  obtain ⟨k, hk⟩ : ∃ k, m / 16 % 65536 = k := ⟨_, rfl⟩
  have e2 : (m : Int) / 16 % 65536 = k := by omega
  obtain ⟨n, hn⟩ : ∃ n, l.length = n := ⟨_, rfl⟩
  have hn0 : 0 < n := by rw [← hn]; exact List.length_pos_iff.2 hne
  obtain ⟨i, hi⟩ : ∃ i, k % n = i := ⟨_, rfl⟩
  have hlt : i < n := by rw [← hi]; exact Nat.mod_lt _ hn0
  have e1 : (m : Int) % 16 = 1 := by omega
  have e5 : (k : Int) / 8 % 6 = 2 := by omega
  have hcell := itCells_at l i (by omega)
  have HI := Lib.hid hI
  have HT := Lib.hid ht
  have HNE := Lib.hid hne
  rw [hn] at HI hl ⊢
  have and15 : bits .and .i64 m 15 = (m : Int) % 16 := bits_low 4 (by decide) m
  clear hI ht hne
  go_enter Tryd.func21, Tryd.ntmps21
  go_wp2_with (first
    | (at_builtin; (refine app_items3 rfl _ _ rfl w.heap.size _ 0 [] l w.heap.size b off cap (World.ownsRow_nil _ _ _ _) rfl (by rw [hn]; exact HI.out) (by rw [hn]; rfl) HNE.out (by omega) (by omega) (Nat.le_refl _) ?_); intro v1 w1 ho1 hb1 _; (rw [Nat.zero_add, List.nil_append, hn] at ho1); obtain ⟨g, c1, hv1, hg0, hg1, hgc, hfr⟩ := own_pos ho1 hn0; subst hv1; have q0 := (ho1.cellAt (i * 3 + 1) (by omega)).trans hcell.2.1; have f0 := hfr (i * 3 + 1); have HO1 := Lib.hid ho1; have HB1 := Lib.hid hb1; clear ho1 hb1 hfr)
    | fail)
  go_ret
  subst hn
  have ho := (World.ownsRow.stored HO1.out (i * 3 + 1) (.int .u64 2)).1
  rw [← itCells_set_n l i hlt] at ho
  have hy : Tame { l[i] with n := 2 } := ⟨by dsimp only; decide, by dsimp only; decide, (HT.out l[i] (List.getElem_mem hlt)).2.2⟩
  have hb := HB1.out.setCell (p := ⟨g, i * 3 + 1, none⟩) hg0 (.int .u64 2)
  exact spoil_end' (by simp) (ho.alloc _) (hb.alloc hb.size _) (tame_set HT.out hy) (by omega)

set_option maxHeartbeats 2000000 in
theorem spoil1_3 (b off cap m : Nat) (l : List It) (w : World) (hI : ItemsAt w w.heap.size (.slice (some ⟨b, off, none⟩) l.length cap) l) (ht : ∀ x ∈ l, Tame x) (hne : l ≠ []) (hl : l.length ≤ 250) (hc : m % 16 = 1) (hj : m / 16 % 65536 / 8 % 6 = 3) :
    Calls Tryd.prog 21 #[.slice (some ⟨b, off, none⟩) l.length cap, .int .i64 m] w (SpoilP w) := by
  obtain ⟨k, hk⟩ : ∃ k, m / 16 % 65536 = k := ⟨_, rfl⟩
  have e2 : (m : Int) / 16 % 65536 = k := by omega
  obtain ⟨n, hn⟩ : ∃ n, l.length = n := ⟨_, rfl⟩
  have hn0 : 0 < n := by rw [← hn]; exact List.length_pos_iff.2 hne
  obtain ⟨i, hi⟩ : ∃ i, k % n = i := ⟨_, rfl⟩
  have hlt : i < n := by rw [← hi]; exact Nat.mod_lt _ hn0
  have e1 : (m : Int) % 16 = 1 := by omega
  have e5 : (k : Int) / 8 % 6 = 3 := by omega
  have hcell := itCells_at l i (by omega)
  have HI := Lib.hid hI
  have HT := Lib.hid ht
  have HNE := Lib.hid hne
  rw [hn] at HI hl ⊢
  have and15 : bits .and .i64 m 15 = (m : Int) % 16 := bits_low 4 (by decide) m
  clear hI ht hne
  go_enter Tryd.func21, Tryd.ntmps21
  go_wp2_with (first
    | (at_builtin; (refine app_items3 rfl _ _ rfl w.heap.size _ 0 [] l w.heap.size b off cap (World.ownsRow_nil _ _ _ _) rfl (by rw [hn]; exact HI.out) (by rw [hn]; rfl) HNE.out (by omega) (by omega) (Nat.le_refl _) ?_); intro v1 w1 ho1 hb1 _; (rw [Nat.zero_add, List.nil_append, hn] at ho1); obtain ⟨g, c1, hv1, hg0, hg1, hgc, hfr⟩ := own_pos ho1 hn0; subst hv1; have q0 := (ho1.cellAt (i * 3 + 1) (by omega)).trans hcell.2.1; have f0 := hfr (i * 3 + 1); have HO1 := Lib.hid ho1; have HB1 := Lib.hid hb1; clear ho1 hb1 hfr)
    | fail)
  go_ret
  subst hn
  have ho := (World.ownsRow.stored HO1.out (i * 3 + 1) (.int .u64 23)).1
  rw [← itCells_set_n l i hlt] at ho
  have hy : Tame { l[i] with n := 23 } := ⟨by dsimp only; decide, by dsimp only; decide, (HT.out l[i] (List.getElem_mem hlt)).2.2⟩
  have hb := HB1.out.setCell (p := ⟨g, i * 3 + 1, none⟩) hg0 (.int .u64 23)
  exact spoil_end' (by simp) (ho.alloc _) (hb.alloc hb.size _) (tame_set HT.out hy) (by omega)

set_option maxHeartbeats 2000000 in
theorem spoil1_4 (b off cap m : Nat) (l : List It) (w : World) (hI : ItemsAt w w.heap.size (.slice (some ⟨b, off, none⟩) l.length cap) l) (ht : ∀ x ∈ l, Tame x) (hne : l ≠ []) (hl : l.length ≤ 250) (hc : m % 16 = 1) (hj : m / 16 % 65536 / 8 % 6 = 4) :
    Calls Tryd.prog 21 #[.slice (some ⟨b, off, none⟩) l.length cap, .int .i64 m] w (SpoilP w) := by
  obtain ⟨k, hk⟩ : ∃ k, m / 16 % 65536 = k := ⟨_, rfl⟩
  have e2 : (m : Int) / 16 % 65536 = k := by omega
  obtain ⟨n, hn⟩ : ∃ n, l.length = n := ⟨_, rfl⟩
  have hn0 : 0 < n := by rw [← hn]; exact List.length_pos_iff.2 hne
  obtain ⟨i, hi⟩ : ∃ i, k % n = i := ⟨_, rfl⟩
  have hlt : i < n := by rw [← hi]; exact Nat.mod_lt _ hn0
  have e1 : (m : Int) % 16 = 1 := by omega
  have e5 : (k : Int) / 8 % 6 = 4 := by omega
  have hcell := itCells_at l i (by omega)
  have HI := Lib.hid hI
  have HT := Lib.hid ht
  have HNE := Lib.hid hne
  rw [hn] at HI hl ⊢
  have and15 : bits .and .i64 m 15 = (m : Int) % 16 := bits_low 4 (by decide) m
  clear hI ht hne
  go_enter Tryd.func21, Tryd.ntmps21
  go_wp2_with (first
    | (at_builtin; (refine app_items3 rfl _ _ rfl w.heap.size _ 0 [] l w.heap.size b off cap (World.ownsRow_nil _ _ _ _) rfl (by rw [hn]; exact HI.out) (by rw [hn]; rfl) HNE.out (by omega) (by omega) (Nat.le_refl _) ?_); intro v1 w1 ho1 hb1 _; (rw [Nat.zero_add, List.nil_append, hn] at ho1); obtain ⟨g, c1, hv1, hg0, hg1, hgc, hfr⟩ := own_pos ho1 hn0; subst hv1; have q0 := (ho1.cellAt (i * 3 + 1) (by omega)).trans hcell.2.1; have f0 := hfr (i * 3 + 1); have HO1 := Lib.hid ho1; have HB1 := Lib.hid hb1; clear ho1 hb1 hfr)
    | fail)
  go_ret
  subst hn
  have ho := (World.ownsRow.stored HO1.out (i * 3 + 1) (.int .u64 513)).1
  rw [← itCells_set_n l i hlt] at ho
  have hy : Tame { l[i] with n := 513 } := ⟨by dsimp only; decide, by dsimp only; decide, (HT.out l[i] (List.getElem_mem hlt)).2.2⟩
  have hb := HB1.out.setCell (p := ⟨g, i * 3 + 1, none⟩) hg0 (.int .u64 513)
  exact spoil_end' (by simp) (ho.alloc _) (hb.alloc hb.size _) (tame_set HT.out hy) (by omega)

set_option maxHeartbeats 2000000 in
theorem spoil1_5 (b off cap m : Nat) (l : List It) (w : World) (hI : ItemsAt w w.heap.size (.slice (some ⟨b, off, none⟩) l.length cap) l) (ht : ∀ x ∈ l, Tame x) (hne : l ≠ []) (hl : l.length ≤ 250) (hc : m % 16 = 1) (hj : m / 16 % 65536 / 8 % 6 = 5) :
    Calls Tryd.prog 21 #[.slice (some ⟨b, off, none⟩) l.length cap, .int .i64 m] w (SpoilP w) := by
  obtain ⟨k, hk⟩ : ∃ k, m / 16 % 65536 = k := ⟨_, rfl⟩
  have e2 : (m : Int) / 16 % 65536 = k := by omega
  obtain ⟨n, hn⟩ : ∃ n, l.length = n := ⟨_, rfl⟩
  have hn0 : 0 < n := by rw [← hn]; exact List.length_pos_iff.2 hne
  obtain ⟨i, hi⟩ : ∃ i, k % n = i := ⟨_, rfl⟩
  have hlt : i < n := by rw [← hi]; exact Nat.mod_lt _ hn0
  have e1 : (m : Int) % 16 = 1 := by omega
  have e5 : (k : Int) / 8 % 6 = 5 := by omega
  have hcell := itCells_at l i (by omega)
  have HI := Lib.hid hI
  have HT := Lib.hid ht
  have HNE := Lib.hid hne
  rw [hn] at HI hl ⊢
  have and15 : bits .and .i64 m 15 = (m : Int) % 16 := bits_low 4 (by decide) m
  clear hI ht hne
  go_enter Tryd.func21, Tryd.ntmps21
  go_wp2_with (first
    | (at_builtin; (refine app_items3 rfl _ _ rfl w.heap.size _ 0 [] l w.heap.size b off cap (World.ownsRow_nil _ _ _ _) rfl (by rw [hn]; exact HI.out) (by rw [hn]; rfl) HNE.out (by omega) (by omega) (Nat.le_refl _) ?_); intro v1 w1 ho1 hb1 _; (rw [Nat.zero_add, List.nil_append, hn] at ho1); obtain ⟨g, c1, hv1, hg0, hg1, hgc, hfr⟩ := own_pos ho1 hn0; subst hv1; have q0 := (ho1.cellAt (i * 3 + 1) (by omega)).trans hcell.2.1; have f0 := hfr (i * 3 + 1); have HO1 := Lib.hid ho1; have HB1 := Lib.hid hb1; clear ho1 hb1 hfr)
    | fail)
  go_ret
  subst hn
  have ho := (World.ownsRow.stored HO1.out (i * 3 + 1) (.int .u64 1099511627776)).1
  rw [← itCells_set_n l i hlt] at ho
  have hy : Tame { l[i] with n := 1099511627776 } := ⟨by dsimp only; decide, by dsimp only; decide, (HT.out l[i] (List.getElem_mem hlt)).2.2⟩
  have hb := HB1.out.setCell (p := ⟨g, i * 3 + 1, none⟩) hg0 (.int .u64 1099511627776)
  exact spoil_end' (by simp) (ho.alloc _) (hb.alloc hb.size _) (tame_set HT.out hy) (by omega)
end Go.Proofs.YtepinmeidjlmmaaDoor

/- A list that was changed in one place: the last ways, and one contract. -/
namespace Go.Proofs.YtepinmeidjlmmaaDoor
open Go.RowKit
set_option maxRecDepth 100000

theorem made_zeros (n : Nat) : (madeCells (Value.int .u8 0).cells (n * 1)).toList = bv (List.replicate n 0) := by
  apply List.ext_getElem?
  intro j
  rw [Array.getElem?_toList]
  rcases Nat.lt_or_ge j n with h | h
  · simp [madeCells, Value.cells, bv, h, Nat.mod_one]
  · rw [Array.getElem?_eq_none (by rw [size_madeCells]; omega), List.getElem?_eq_none (by simp [bv]; exact h)]
theorem make_1025 (w : World) : ∃ (w' : World) (S : ByteArray), (Instr.makeSlice 25 (.int .i64 1025) (.int .i64 1025)).run Tryd.prog w = .ok (.slice (some ⟨w.heap.size, 0, none⟩) 1025 1025) w' ∧ (convert 25 9 (.slice (some ⟨w.heap.size, 0, none⟩) 1025 1025)).run Tryd.prog w' = .ok (.string S) w' ∧ S.size = 1025 ∧ Below w.heap.size w w' := by
  obtain ⟨i0, hi, hz0, hz1, hz2⟩ := info_parts info5
  obtain ⟨w', h1, h2, h3⟩ := run_makeSlice_full (P := Tryd.prog) (w := w) w.heap.size 25 5 i0 (.int .u8 0) 1 Tryd.underlying25 hi hz0 hz1 .i64 .i64 1025 (by decide) (by rw [hz2]; decide) (by decide) (Nat.le_refl _)
  rw [made_zeros] at h2
  have hc := conv_row (l := List.replicate 1025 0) (v := .slice (some ⟨w.heap.size, 0, none⟩) 1025 1025) (by rw [List.length_replicate]; exact h2) (by rw [List.length_replicate]; decide)
  exact ⟨w', _, h1, hc, by rw [strOfNums_size, List.length_replicate], ⟨h3.os, h3.tape, h3.output, h3.size, fun k hk => h3.block k hk (by simp)⟩⟩

set_option maxHeartbeats 2000000 in
theorem spoil2_0 (b off cap m : Nat) (l : List It) (w : World) (hI : ItemsAt w w.heap.size (.slice (some ⟨b, off, none⟩) l.length cap) l) (ht : ∀ x ∈ l, Tame x) (hne : l ≠ []) (hl : l.length ≤ 250) (hc : m % 16 = 2) (hj : m / 16 % 65536 / 8 % 4 = 0) :
    Calls Tryd.prog 21 #[.slice (some ⟨b, off, none⟩) l.length cap, .int .i64 m] w (SpoilP w) := by
  obtain ⟨k, hk⟩ : ∃ k, m / 16 % 65536 = k := ⟨_, rfl⟩
  have e2 : (m : Int) / 16 % 65536 = k := by omega
  obtain ⟨n, hn⟩ : ∃ n, l.length = n := ⟨_, rfl⟩
  have hn0 : 0 < n := by rw [← hn]; exact List.length_pos_iff.2 hne
  obtain ⟨i, hi⟩ : ∃ i, k % n = i := ⟨_, rfl⟩
  have hlt : i < n := by rw [← hi]; exact Nat.mod_lt _ hn0
  have e1 : (m : Int) % 16 = 2 := by omega
  have e5 : (k : Int) / 8 % 4 = 0 := by omega
  have hcell := itCells_at l i (by omega)
  have HI := Lib.hid hI
  have HT := Lib.hid ht
  have HNE := Lib.hid hne
  rw [hn] at HI hl ⊢
  have and15 : bits .and .i64 m 15 = (m : Int) % 16 := bits_low 4 (by decide) m
  clear hI ht hne
  go_enter Tryd.func21, Tryd.ntmps21
  go_wp2_with (first
    | (at_builtin; (refine app_items3 rfl _ _ rfl w.heap.size _ 0 [] l w.heap.size b off cap (World.ownsRow_nil _ _ _ _) rfl (by rw [hn]; exact HI.out) (by rw [hn]; rfl) HNE.out (by omega) (by omega) (Nat.le_refl _) ?_); intro v1 w1 ho1 hb1 _; (rw [Nat.zero_add, List.nil_append, hn] at ho1); obtain ⟨g, c1, hv1, hg0, hg1, hgc, hfr⟩ := own_pos ho1 hn0; subst hv1; have q0 := (ho1.cellAt (i * 3 + 2) (by omega)).trans hcell.2.2; have f0 := hfr (i * 3 + 2); obtain ⟨w2, S, hmk, cv, hS, hb12⟩ := make_1025 w1; have q2 := (hb12.cell (p := ⟨g, i * 3 + 2, none⟩) hg1).trans q0; have f2 := (hb12.frozen (p := ⟨g, i * 3 + 2, none⟩) hg1).trans f0; have hgw := Nat.lt_of_lt_of_le hg1 hb12.size; have HB12 := Lib.hid hb12; clear hb12; have HO1 := Lib.hid ho1; have HB1 := Lib.hid hb1; clear ho1 hb1 hfr)
    | fail)
  go_ret
  subst hn
  have ho := (World.ownsRow.stored (own_below HO1.out HB12.out) (i * 3 + 2) (.string ⟨#[]⟩)).1
  rw [← itCells_set_d l i hlt] at ho
  have hy : Tame { l[i] with d := ⟨#[]⟩ } := ⟨(HT.out l[i] (List.getElem_mem hlt)).1, (HT.out l[i] (List.getElem_mem hlt)).2.1, by dsimp only; decide⟩
  have hb := (HB1.out.trans (HB12.out.mono HB1.out.size)).setCell (p := ⟨g, i * 3 + 2, none⟩) hg0 (.string ⟨#[]⟩)
  exact spoil_end' (by simp) (ho.alloc _) (hb.alloc hb.size _) (tame_set HT.out hy) (by omega)

set_option maxHeartbeats 2000000 in
theorem spoil2_1 (b off cap m : Nat) (l : List It) (w : World) (hI : ItemsAt w w.heap.size (.slice (some ⟨b, off, none⟩) l.length cap) l) (ht : ∀ x ∈ l, Tame x) (hne : l ≠ []) (hl : l.length ≤ 250) (hc : m % 16 = 2) (hj : m / 16 % 65536 / 8 % 4 = 1) :
    Calls Tryd.prog 21 #[.slice (some ⟨b, off, none⟩) l.length cap, .int .i64 m] w (SpoilP w) := by
  obtain ⟨k, hk⟩ : ∃ k, m / 16 % 65536 = k := ⟨_, rfl⟩
  have e2 : (m : Int) / 16 % 65536 = k := by omega
  obtain ⟨n, hn⟩ : ∃ n, l.length = n := ⟨_, rfl⟩
  have hn0 : 0 < n := by rw [← hn]; exact List.length_pos_iff.2 hne
  obtain ⟨i, hi⟩ : ∃ i, k % n = i := ⟨_, rfl⟩
  have hlt : i < n := by rw [← hi]; exact Nat.mod_lt _ hn0
  have e1 : (m : Int) % 16 = 2 := by omega
  have e5 : (k : Int) / 8 % 4 = 1 := by omega
  have hcell := itCells_at l i (by omega)
  have HI := Lib.hid hI
  have HT := Lib.hid ht
  have HNE := Lib.hid hne
  rw [hn] at HI hl ⊢
  have and15 : bits .and .i64 m 15 = (m : Int) % 16 := bits_low 4 (by decide) m
  clear hI ht hne
  go_enter Tryd.func21, Tryd.ntmps21
  go_wp2_with (first
    | (at_builtin; (refine app_items3 rfl _ _ rfl w.heap.size _ 0 [] l w.heap.size b off cap (World.ownsRow_nil _ _ _ _) rfl (by rw [hn]; exact HI.out) (by rw [hn]; rfl) HNE.out (by omega) (by omega) (Nat.le_refl _) ?_); intro v1 w1 ho1 hb1 _; (rw [Nat.zero_add, List.nil_append, hn] at ho1); obtain ⟨g, c1, hv1, hg0, hg1, hgc, hfr⟩ := own_pos ho1 hn0; subst hv1; have q0 := (ho1.cellAt (i * 3 + 2) (by omega)).trans hcell.2.2; have f0 := hfr (i * 3 + 2); obtain ⟨w2, S, hmk, cv, hS, hb12⟩ := make_1025 w1; have q2 := (hb12.cell (p := ⟨g, i * 3 + 2, none⟩) hg1).trans q0; have f2 := (hb12.frozen (p := ⟨g, i * 3 + 2, none⟩) hg1).trans f0; have hgw := Nat.lt_of_lt_of_le hg1 hb12.size; have HB12 := Lib.hid hb12; clear hb12; have HO1 := Lib.hid ho1; have HB1 := Lib.hid hb1; clear ho1 hb1 hfr)
    | fail)
  go_ret
  subst hn
  have ho := (World.ownsRow.stored (own_below HO1.out HB12.out) (i * 3 + 2) (.string ⟨#[98]⟩)).1
  rw [← itCells_set_d l i hlt] at ho
  have hy : Tame { l[i] with d := ⟨#[98]⟩ } := ⟨(HT.out l[i] (List.getElem_mem hlt)).1, (HT.out l[i] (List.getElem_mem hlt)).2.1, by dsimp only; decide⟩
  have hb := (HB1.out.trans (HB12.out.mono HB1.out.size)).setCell (p := ⟨g, i * 3 + 2, none⟩) hg0 (.string ⟨#[98]⟩)
  exact spoil_end' (by simp) (ho.alloc _) (hb.alloc hb.size _) (tame_set HT.out hy) (by omega)

set_option maxHeartbeats 2000000 in
theorem spoil2_2 (b off cap m : Nat) (l : List It) (w : World) (hI : ItemsAt w w.heap.size (.slice (some ⟨b, off, none⟩) l.length cap) l) (ht : ∀ x ∈ l, Tame x) (hne : l ≠ []) (hl : l.length ≤ 250) (hc : m % 16 = 2) (hj : m / 16 % 65536 / 8 % 4 = 2) :
    Calls Tryd.prog 21 #[.slice (some ⟨b, off, none⟩) l.length cap, .int .i64 m] w (SpoilP w) := by
  obtain ⟨k, hk⟩ : ∃ k, m / 16 % 65536 = k := ⟨_, rfl⟩
  have e2 : (m : Int) / 16 % 65536 = k := by omega
  obtain ⟨n, hn⟩ : ∃ n, l.length = n := ⟨_, rfl⟩
  have hn0 : 0 < n := by rw [← hn]; exact List.length_pos_iff.2 hne
  obtain ⟨i, hi⟩ : ∃ i, k % n = i := ⟨_, rfl⟩
  have hlt : i < n := by rw [← hi]; exact Nat.mod_lt _ hn0
  have e1 : (m : Int) % 16 = 2 := by omega
  have e5 : (k : Int) / 8 % 4 = 2 := by omega
  have hcell := itCells_at l i (by omega)
  have HI := Lib.hid hI
  have HT := Lib.hid ht
  have HNE := Lib.hid hne
  rw [hn] at HI hl ⊢
  have and15 : bits .and .i64 m 15 = (m : Int) % 16 := bits_low 4 (by decide) m
  clear hI ht hne
  go_enter Tryd.func21, Tryd.ntmps21
  go_wp2_with (first
    | (at_builtin; (refine app_items3 rfl _ _ rfl w.heap.size _ 0 [] l w.heap.size b off cap (World.ownsRow_nil _ _ _ _) rfl (by rw [hn]; exact HI.out) (by rw [hn]; rfl) HNE.out (by omega) (by omega) (Nat.le_refl _) ?_); intro v1 w1 ho1 hb1 _; (rw [Nat.zero_add, List.nil_append, hn] at ho1); obtain ⟨g, c1, hv1, hg0, hg1, hgc, hfr⟩ := own_pos ho1 hn0; subst hv1; have q0 := (ho1.cellAt (i * 3 + 2) (by omega)).trans hcell.2.2; have f0 := hfr (i * 3 + 2); obtain ⟨w2, S, hmk, cv, hS, hb12⟩ := make_1025 w1; have q2 := (hb12.cell (p := ⟨g, i * 3 + 2, none⟩) hg1).trans q0; have f2 := (hb12.frozen (p := ⟨g, i * 3 + 2, none⟩) hg1).trans f0; have hgw := Nat.lt_of_lt_of_le hg1 hb12.size; have HB12 := Lib.hid hb12; clear hb12; have HO1 := Lib.hid ho1; have HB1 := Lib.hid hb1; clear ho1 hb1 hfr)
    | fail)
  go_ret
  subst hn
  have ho := (World.ownsRow.stored (own_below HO1.out HB12.out) (i * 3 + 2) (.string ⟨#[255]⟩)).1
  rw [← itCells_set_d l i hlt] at ho
  have hy : Tame { l[i] with d := ⟨#[255]⟩ } := ⟨(HT.out l[i] (List.getElem_mem hlt)).1, (HT.out l[i] (List.getElem_mem hlt)).2.1, by dsimp only; decide⟩
  have hb := (HB1.out.trans (HB12.out.mono HB1.out.size)).setCell (p := ⟨g, i * 3 + 2, none⟩) hg0 (.string ⟨#[255]⟩)
  exact spoil_end' (by simp) (ho.alloc _) (hb.alloc hb.size _) (tame_set HT.out hy) (by omega)

set_option maxHeartbeats 2000000 in
theorem spoil2_3 (b off cap m : Nat) (l : List It) (w : World) (hI : ItemsAt w w.heap.size (.slice (some ⟨b, off, none⟩) l.length cap) l) (ht : ∀ x ∈ l, Tame x) (hne : l ≠ []) (hl : l.length ≤ 250) (hc : m % 16 = 2) (hj : m / 16 % 65536 / 8 % 4 = 3) :
    Calls Tryd.prog 21 #[.slice (some ⟨b, off, none⟩) l.length cap, .int .i64 m] w (SpoilP w) := by
  obtain ⟨k, hk⟩ : ∃ k, m / 16 % 65536 = k := ⟨_, rfl⟩
  have e2 : (m : Int) / 16 % 65536 = k := by omega
  obtain ⟨n, hn⟩ : ∃ n, l.length = n := ⟨_, rfl⟩
  have hn0 : 0 < n := by rw [← hn]; exact List.length_pos_iff.2 hne
  obtain ⟨i, hi⟩ : ∃ i, k % n = i := ⟨_, rfl⟩
  have hlt : i < n := by rw [← hi]; exact Nat.mod_lt _ hn0
  have e1 : (m : Int) % 16 = 2 := by omega
  have e5 : (k : Int) / 8 % 4 = 3 := by omega
  have hcell := itCells_at l i (by omega)
  have HI := Lib.hid hI
  have HT := Lib.hid ht
  have HNE := Lib.hid hne
  rw [hn] at HI hl ⊢
  have and15 : bits .and .i64 m 15 = (m : Int) % 16 := bits_low 4 (by decide) m
  clear hI ht hne
  go_enter Tryd.func21, Tryd.ntmps21
  go_wp2_with (first
    | (at_builtin; (refine app_items3 rfl _ _ rfl w.heap.size _ 0 [] l w.heap.size b off cap (World.ownsRow_nil _ _ _ _) rfl (by rw [hn]; exact HI.out) (by rw [hn]; rfl) HNE.out (by omega) (by omega) (Nat.le_refl _) ?_); intro v1 w1 ho1 hb1 _; (rw [Nat.zero_add, List.nil_append, hn] at ho1); obtain ⟨g, c1, hv1, hg0, hg1, hgc, hfr⟩ := own_pos ho1 hn0; subst hv1; have q0 := (ho1.cellAt (i * 3 + 2) (by omega)).trans hcell.2.2; have f0 := hfr (i * 3 + 2); obtain ⟨w2, S, hmk, cv, hS, hb12⟩ := make_1025 w1; have q2 := (hb12.cell (p := ⟨g, i * 3 + 2, none⟩) hg1).trans q0; have f2 := (hb12.frozen (p := ⟨g, i * 3 + 2, none⟩) hg1).trans f0; have hgw := Nat.lt_of_lt_of_le hg1 hb12.size; have HB12 := Lib.hid hb12; clear hb12; have HO1 := Lib.hid ho1; have HB1 := Lib.hid hb1; clear ho1 hb1 hfr)
    | fail)
  go_ret
  subst hn
  have ho := (World.ownsRow.stored (own_below HO1.out HB12.out) (i * 3 + 2) (.string S)).1
  rw [← itCells_set_d l i hlt] at ho
  have hy : Tame { l[i] with d := S } := ⟨(HT.out l[i] (List.getElem_mem hlt)).1, (HT.out l[i] (List.getElem_mem hlt)).2.1, by dsimp only; omega⟩
  have hb := (HB1.out.trans (HB12.out.mono HB1.out.size)).setCell (p := ⟨g, i * 3 + 2, none⟩) hg0 (.string S)
  exact spoil_end' (by simp) (ho.alloc _) (hb.alloc hb.size _) (tame_set HT.out hy) (by omega)

theorem cell_still {w : World} {a b : Addr} {u v : Value} (h : w.cell? a = some u) : ∃ u', (w.setCell b v).cell? a = some u' := by
  by_cases e : a = b
  · subst e; exact ⟨v, World.cell?_setCell_same _ _ _ h⟩
  · exact ⟨u, by rw [World.cell?_setCell_other _ _ _ _ (by first | exact e | exact fun h => e h.symm)]; exact h⟩
theorem cell_still3 {w : World} {a a1 a2 a3 : Addr} {u v1 v2 v3 : Value} (h : w.cell? a = some u) : ∃ u', (((w.setCell a1 v1).setCell a2 v2).setCell a3 v3).cell? a = some u' := by
  obtain ⟨_, h1⟩ := cell_still (b := a1) (v := v1) h
  obtain ⟨_, h2⟩ := cell_still (b := a2) (v := v2) h1
  exact cell_still h2
theorem own_drew {w : World} {base e size n : Nat} {v : Value} {xs : List Value} (h : w.ownsRow base e size v n xs) : w.drew.ownsRow base e size v n xs := h
theorem spoil_drew {w w' : World} {g c n : Nat} {ys : List It} {e : Ending} (he : e = .returned (.slice (some ⟨g, 0, none⟩) n c)) (hn : ys.length = n) (h : w'.ownsRow w.heap.size 58 3 (.slice (some ⟨g, 0, none⟩) n c) n (itCells ys)) (hb : Below w.heap.size w w') (ht : ∀ y ∈ ys, Tame y) (hl : n ≤ 300) : SpoilP w e w'.drew := by
  subst he
  exact spoil_end' hn (own_drew h) hb.drew ht hl

set_option maxHeartbeats 2000000 in
theorem spoil5 (b off cap m : Nat) (l : List It) (w : World) (hI : ItemsAt w w.heap.size (.slice (some ⟨b, off, none⟩) l.length cap) l) (ht : ∀ x ∈ l, Tame x) (hne : l ≠ []) (hl : l.length ≤ 250) (hc : m % 16 = 5) :
    Calls Tryd.prog 21 #[.slice (some ⟨b, off, none⟩) l.length cap, .int .i64 m] w (SpoilP w) := by
  obtain ⟨k, hk⟩ : ∃ k, m / 16 % 65536 = k := ⟨_, rfl⟩
  have e2 : (m : Int) / 16 % 65536 = k := by omega
  obtain ⟨n, hn⟩ : ∃ n, l.length = n := ⟨_, rfl⟩
  have hn0 : 0 < n := by rw [← hn]; exact List.length_pos_iff.2 hne
  obtain ⟨i, hi⟩ : ∃ i, k % n = i := ⟨_, rfl⟩
  have hlt : i < n := by rw [← hi]; exact Nat.mod_lt _ hn0
  have e1 : (m : Int) % 16 = 5 := by omega
  obtain ⟨j, hj⟩ : ∃ j, k / 16 % n = j := ⟨_, rfl⟩
  have hjt : j < n := by rw [← hj]; exact Nat.mod_lt _ hn0
  obtain ⟨k2, hk2⟩ : ∃ k2, k / 16 = k2 := ⟨_, rfl⟩
  have hk3 : (k : Int) / 16 = k2 := by omega
  rw [hk2] at hj
  have hcell := itCells_at l i (by omega)
  have hcel2 := itCells_at l j (by omega)
  subst hj
  have HI := Lib.hid hI
  have HT := Lib.hid ht
  have HNE := Lib.hid hne
  rw [hn] at HI hl ⊢
  have and15 : bits .and .i64 m 15 = (m : Int) % 16 := bits_low 4 (by decide) m
  clear hI ht hne
  go_enter Tryd.func21, Tryd.ntmps21
  go_wp2_with (first
    | (at_builtin; (refine app_items3 rfl _ _ rfl w.heap.size _ 0 [] l w.heap.size b off cap (World.ownsRow_nil _ _ _ _) rfl (by rw [hn]; exact HI.out) (by rw [hn]; rfl) HNE.out (by omega) (by omega) (Nat.le_refl _) ?_); intro v1 w1 ho1 hb1 _; (rw [Nat.zero_add, List.nil_append, hn] at ho1); obtain ⟨g, c1, hv1, hg0, hg1, hgc, hfr⟩ := own_pos ho1 hn0; subst hv1; have q0 := (ho1.cellAt (i * 3) (by omega)).trans hcell.1; have q1 := (ho1.cellAt (i * 3 + 1) (by omega)).trans hcell.2.1; have q2 := (ho1.cellAt (i * 3 + 2) (by omega)).trans hcell.2.2; have p0 := (ho1.cellAt (k2 % n * 3) (by omega)).trans hcel2.1; have p1 := (ho1.cellAt (k2 % n * 3 + 1) (by omega)).trans hcel2.2.1; have p2 := (ho1.cellAt (k2 % n * 3 + 2) (by omega)).trans hcel2.2.2; obtain ⟨u0, r0⟩ := cell_still3 (a1 := ⟨g, i * 3, none⟩) (a2 := ⟨g, i * 3 + 1, none⟩) (a3 := ⟨g, i * 3 + 2, none⟩) (v1 := .int .i64 l[k2 % n].k) (v2 := .int .u64 l[k2 % n].n) (v3 := .string l[k2 % n].d) p0; obtain ⟨u1, r1⟩ := cell_still3 (a1 := ⟨g, i * 3, none⟩) (a2 := ⟨g, i * 3 + 1, none⟩) (a3 := ⟨g, i * 3 + 2, none⟩) (v1 := .int .i64 l[k2 % n].k) (v2 := .int .u64 l[k2 % n].n) (v3 := .string l[k2 % n].d) p1; obtain ⟨u2, r2⟩ := cell_still3 (a1 := ⟨g, i * 3, none⟩) (a2 := ⟨g, i * 3 + 1, none⟩) (a3 := ⟨g, i * 3 + 2, none⟩) (v1 := .int .i64 l[k2 % n].k) (v2 := .int .u64 l[k2 % n].n) (v3 := .string l[k2 % n].d) p2; have f0 := hfr (i * 3); have f1 := hfr (i * 3 + 1); have f2 := hfr (i * 3 + 2); have g0 := hfr (k2 % n * 3); have g1 := hfr (k2 % n * 3 + 1); have g2 := hfr (k2 % n * 3 + 2); have HO1 := Lib.hid ho1; have HB1 := Lib.hid hb1; clear ho1 hb1 hfr)
    | fail)
  go_region
  go_wp2
  go_ret
  subst hn
  have hj : k2 % l.length < l.length := hjt
  have s1 := (World.ownsRow.stored HO1.out (i * 3) (.int .i64 l[k2 % l.length].k)).1
  have s2 := (World.ownsRow.stored s1 (i * 3 + 1) (.int .u64 l[k2 % l.length].n)).1
  have s3 := (World.ownsRow.stored s2 (i * 3 + 2) (.string l[k2 % l.length].d)).1
  rw [← itCells_set l i l[k2 % l.length] hlt] at s3
  have s4 := (World.ownsRow.stored s3 (k2 % l.length * 3) (.int .i64 l[i].k)).1
  have s5 := (World.ownsRow.stored s4 (k2 % l.length * 3 + 1) (.int .u64 l[i].n)).1
  have s6 := (World.ownsRow.stored s5 (k2 % l.length * 3 + 2) (.string l[i].d)).1
  rw [← itCells_set (l.set i l[k2 % l.length]) (k2 % l.length) l[i] (by simp; exact hj)] at s6
  have hb := (((((HB1.out.setCell (p := ⟨g, i * 3, none⟩) hg0 (.int .i64 l[k2 % l.length].k)).setCell (p := ⟨g, i * 3 + 1, none⟩) hg0 (.int .u64 l[k2 % l.length].n)).setCell (p := ⟨g, i * 3 + 2, none⟩) hg0 (.string l[k2 % l.length].d)).setCell (p := ⟨g, k2 % l.length * 3, none⟩) hg0 (.int .i64 l[i].k)).setCell (p := ⟨g, k2 % l.length * 3 + 1, none⟩) hg0 (.int .u64 l[i].n)).setCell (p := ⟨g, k2 % l.length * 3 + 2, none⟩) hg0 (.string l[i].d)
  have ht6 : ∀ y ∈ (l.set i l[k2 % l.length]).set (k2 % l.length) l[i], Tame y := (tame_set (tame_set HT.out (HT.out _ (List.getElem_mem hj))) (HT.out _ (List.getElem_mem hlt)))
  have hlen6 : ((l.set i l[k2 % l.length]).set (k2 % l.length) l[i]).length = l.length := by simp
  clear r0 r1 r2 q0 q1 q2 p0 p1 p2 f0 f1 f2 g0 g1 g2 s1 s2 s3 s4 s5
  exact spoil_drew rfl hlen6 s6 hb ht6 (by omega)

/-- a list that was changed in one place is a list of such items again -/
theorem spoil_any (b off cap m : Nat) (l : List It) (w : World) (hI : ItemsAt w w.heap.size (.slice (some ⟨b, off, none⟩) l.length cap) l) (ht : ∀ x ∈ l, Tame x) (hne : l ≠ []) (hl : l.length ≤ 250) :
    Calls Tryd.prog 21 #[.slice (some ⟨b, off, none⟩) l.length cap, .int .i64 m] w (SpoilP w) := by
  have hm : m % 16 < 16 := Nat.mod_lt _ (by decide)
  by_cases h6 : 6 ≤ m % 16
  · exact spoil6 b off cap m l w hI ht hne hl h6
  have hc : m % 16 = 0 ∨ m % 16 = 1 ∨ m % 16 = 2 ∨ m % 16 = 3 ∨ m % 16 = 4 ∨ m % 16 = 5 := by omega
  rcases hc with hc | hc | hc | hc | hc | hc
  · exact spoil0 b off cap m l w hI ht hne hl hc
  · have hj : m / 16 % 65536 / 8 % 6 < 6 := Nat.mod_lt _ (by decide)
    have hj6 : m / 16 % 65536 / 8 % 6 = 0 ∨ m / 16 % 65536 / 8 % 6 = 1 ∨ m / 16 % 65536 / 8 % 6 = 2 ∨ m / 16 % 65536 / 8 % 6 = 3 ∨ m / 16 % 65536 / 8 % 6 = 4 ∨ m / 16 % 65536 / 8 % 6 = 5 := by omega
    rcases hj6 with hj | hj | hj | hj | hj | hj
    · exact spoil1_0 b off cap m l w hI ht hne hl hc hj
    · exact spoil1_1 b off cap m l w hI ht hne hl hc hj
    · exact spoil1_2 b off cap m l w hI ht hne hl hc hj
    · exact spoil1_3 b off cap m l w hI ht hne hl hc hj
    · exact spoil1_4 b off cap m l w hI ht hne hl hc hj
    · exact spoil1_5 b off cap m l w hI ht hne hl hc hj
  · have hj : m / 16 % 65536 / 8 % 4 < 4 := Nat.mod_lt _ (by decide)
    have hj4 : m / 16 % 65536 / 8 % 4 = 0 ∨ m / 16 % 65536 / 8 % 4 = 1 ∨ m / 16 % 65536 / 8 % 4 = 2 ∨ m / 16 % 65536 / 8 % 4 = 3 := by omega
    rcases hj4 with hj | hj | hj | hj
    · exact spoil2_0 b off cap m l w hI ht hne hl hc hj
    · exact spoil2_1 b off cap m l w hI ht hne hl hc hj
    · exact spoil2_2 b off cap m l w hI ht hne hl hc hj
    · exact spoil2_3 b off cap m l w hI ht hne hl hc hj
  · exact spoil3 b off cap m l w hI ht hne hl hc
  · exact spoil4 b off cap m l w hI ht hne hl hc
  · exact spoil5 b off cap m l w hI ht hne hl hc
end Go.Proofs.YtepinmeidjlmmaaDoor
