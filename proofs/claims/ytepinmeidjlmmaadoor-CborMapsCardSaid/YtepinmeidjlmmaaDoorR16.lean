/- Joined: Y7, Y8, Y9, Z1. -/
import Derived.Test.YtepinmeidjlmmaaDoorR15
import Derived.SizedLaws
/- The reference's Lookup over a map. -/
namespace Go.Proofs.YtepinmeidjlmmaaDoor
open Go.RowKit
set_option maxRecDepth 100000

set_option maxHeartbeats 2000000 in
theorem lookR_map (l : List It) (b off cap : Nat) (key : Int) (x0 : It) (w : World) (hI : ItemsAt w w.heap.size (.slice (some ⟨b, off, none⟩) l.length cap) l) (hcap : l.length ≤ cap) (hlen : l.length ≤ 1000) (hx0 : l[0]? = some x0) (hk6 : x0.k = 6)
    (hx512 : x0.n ≤ 512) (hP : PairsAt l x0.n.toNat 1) (hV : Calls Tryd.prog 19 #[.slice (some ⟨b, off, none⟩) l.length cap] w (VaP w 0)) :
    Calls Tryd.prog 28 #[.slice (some ⟨b, off, none⟩) l.length cap, .int .u64 key] w (LkP w l (lookGo l key x0.n.toNat 1)) := by
  obtain ⟨r, hr⟩ : ∃ r, lookGo l key x0.n.toNat 1 = r := ⟨_, rfl⟩
  rw [hr]
  have hl0 : 0 < l.length := (List.getElem?_eq_some_iff.1 hx0).1
  obtain ⟨hb0, hcells⟩ := items_cells hI
  have hb := hb0 hl0
  have hc0 := (hcells 0 hl0).1
  have e0 : l[0] = x0 := (List.getElem?_eq_some_iff.1 hx0).2
  rw [e0, hk6] at hc0
  have hn0 := (hcells 0 hl0).2.1
  rw [e0] at hn0
  simp only [Nat.zero_mul, Nat.add_zero] at hc0 hn0
  have hpos0 : 0 ≤ x0.n := (hI.ok x0 (List.mem_of_getElem? hx0)).1
  obtain ⟨N, hNe⟩ := Int.eq_ofNat_of_zero_le hpos0
  rw [hNe] at hn0 hx512 hP hr
  have HSK := Lib.hid (fun (W : World) (z : Int) (hW : Below w.heap.size w W) => skipR_any l (.slice (some ⟨b, off, none⟩) l.length cap) z W (itemsAt_mono (hI.below hW) hW.size))
  have HI := Lib.hid hI
  have HC := Lib.hid hcells
  rw [show ((N : Int)).toNat = N from rfl] at hP hr
  have HP := Lib.hid hP
  have HV := Lib.hid hV
  have HR := Lib.hid hr
  have hn1 := hn0
  obtain ⟨n, hn⟩ : ∃ n, l.length = n := ⟨_, rfl⟩
  rw [hn] at hcap hlen hl0 ⊢
  rw [hn] at HSK HV HI
  have HN := Lib.hid hn
  clear hn hI hcells hP hV hr e0 hk6 hx0 hb0 hNe hpos0 hn1
  go_enter Tryd.func28, Tryd.ntmps28
  go_wp2_with (first | (go_at_call 19; refine HV.out.mono ?_; rintro e w1 ⟨rfl, hb1⟩; have hc1 := (hb1.cell (p := ⟨b, off, none⟩) hb).trans hc0) | fail)
  have HB1 := Lib.hid hb1
  clear hb1 hc1 hc0
  go_loopw [6, 7] (fun i j wr => ∃ a c : Nat, i = .int .i64 a ∧ j = .int .u64 ((N - c : Nat) : Int) ∧ c ≤ N ∧ a ≤ n ∧ PairsAt l c a ∧ lookGo l key c a = r ∧ Below w.heap.size w wr) (fun i _ _ => n - (intOf i).toNat)
  case atStart => exact ⟨1, N, rfl, by rw [Nat.sub_self]; rfl, Nat.le_refl _, by omega, HP.out, HR.out, HB1.out⟩
  case round =>
    obtain ⟨a, c, rfl, rfl, hcN, han, hpa, hgo, hbk⟩ := hrel
    have hsz := hbk.size
    have hn2 := (hbk.cell (p := ⟨b, off + 1, none⟩) hb).trans hn0
    cases c with
    | zero =>
      have ha : a = n := by rw [← HN.out]; exact hpa
      have hr : none = r := hgo
      subst hr
      have HB := Lib.hid hbk
      clear hpa hgo hbk
      go_wp2
      go_ret2
      exact LkP.none w wr l HB.out
    | succ c =>
      obtain ⟨q, s1, s2, hpq⟩ := hpa
      have hlt := s2.lt
      have hle := s2.le
      have hal : a < l.length := by omega
      have hql : q ≤ n := by rw [← HN.out]; exact hle
      have hx : l[a]? = some l[a] := List.getElem?_eq_getElem hal
      obtain ⟨c0, c1, c2⟩ := HC.out a hal
      have d0 := (hbk.cell (p := ⟨b, off + a * 3, none⟩) hb).trans c0
      have d1 := (hbk.cell (p := ⟨b, off + a * 3 + 1, none⟩) hb).trans c1
      have hskip1 := fun W hW => HSK.out W (a : Int) hW
      rw [s1.skip, show ((a + 1 : Nat) : Int) = (a : Int) + 1 from by omega] at hskip1
      dsimp only at hskip1
      have HS1 := Lib.hid hskip1
      have hskip := fun W hW => HSK.out W ((a + 1 : Nat) : Int) hW
      rw [s2.skip, show ((a + 1 : Nat) : Int) = (a : Int) + 1 from by omega] at hskip
      dsimp only at hskip
      have HS := Lib.hid hskip
      generalize l[a] = x at *
      have hHIT := look_hit (key := key) (c := c) hx s2
      have hMISS := look_miss (key := key) (c := c) hx s2
      obtain ⟨k, m, d⟩ := x
      dsimp only at d0 d1 hHIT hMISS
      have HHIT := Lib.hid hHIT
      have HMISS := Lib.hid hMISS
      have HPQ := Lib.hid hpq
      have HGO := Lib.hid hgo
      have HB := Lib.hid hbk
      clear hpq hgo hbk hx c0 c1 c2 s1 s2 hskip hskip1 hHIT hMISS
      by_cases hk : k = 1
      · subst hk
        by_cases hm : m = key
        · subst hm
          have hr : some (a + 1, q) = r := by rw [← HGO.out, HHIT.out ⟨rfl, rfl⟩]
          subst hr
          go_wp2_with fail
          refine (HS1.out _ HB.out).mono ?_
          rintro e w3 ⟨rfl, hb31⟩
          have HB3 := Lib.hid (HB.out.trans (hb31.mono hsz))
          go_wp2_with fail
          refine (HS.out _ HB3.out).mono ?_
          rintro e w2 ⟨rfl, hb32⟩
          have hb2 := hb31.trans (hb32.mono hb31.size)
          have d3 := (hb2.cell (p := ⟨b, off + a * 3, none⟩) (by exact Nat.lt_of_lt_of_le hb hsz)).trans d0
          have d4 := (hb2.cell (p := ⟨b, off + a * 3 + 1, none⟩) (by exact Nat.lt_of_lt_of_le hb hsz)).trans d1
          clear hb31 hb32
          have HB2 := Lib.hid (HB.out.trans (hb2.mono hsz))
          have hI2 := itemsAt_mono (HI.out.below HB2.out) HB2.out.size
          rw [← HN.out] at hI2
          have hpart := hI2.part (c := cap - (a + 1)) hlt hle
          have hsub : ((l.drop (a + 1)).take (q - (a + 1))).length = q - (a + 1) := by simp; omega
          have hok := hpart.ok
          have hLL : lookL l (some (a + 1, q)) = (l.drop (a + 1)).take (q - (a + 1)) := rfl
          have HLL := Lib.hid hLL
          clear hLL
          generalize (l.drop (a + 1)).take (q - (a + 1)) = xs at *
          have hne : xs ≠ [] := by
            intro h
            rw [h] at hsub
            simp at hsub
            omega
          rw [← hsub] at hpart
          have HP2 := Lib.hid hpart
          have HOK := Lib.hid hok
          clear hpart hI2 hok
          go_wp2_with (first
            | (at_builtin; refine app_items3 rfl _ _ rfl w2.heap.size _ 0 [] xs w2.heap.size b (off + (a + 1) * 3) (cap - (a + 1)) (World.ownsRow_nil _ _ _ _) rfl HP2.out (by rw [hsub]; rfl) hne (by omega) (by rw [hsub]; omega) (Nat.le_refl _) ?_; intro v3 w3 ho3 hb3 _)
            | fail)
          go_ret2
          rw [Nat.zero_add, List.nil_append] at ho3
          exact ⟨_, rfl, HB2.out.trans (hb3.mono HB2.out.size), by rw [HLL.out]; exact copied ho3 (by rw [hsub]; omega) HOK.out (by rw [hsub]; omega)⟩
        · have hr := HGO.out
          rw [HMISS.out (fun h => hm h.2)] at hr
          have HR2 := Lib.hid hr
          have hm2 : (m == key) = false := by simpa using hm
          clear hr
          go_wp2_with fail
          refine (HS1.out _ HB.out).mono ?_
          rintro e w3 ⟨rfl, hb31⟩
          have HB3 := Lib.hid (HB.out.trans (hb31.mono hsz))
          go_wp2_with fail
          refine (HS.out _ HB3.out).mono ?_
          rintro e w2 ⟨rfl, hb32⟩
          have hb2 := hb31.trans (hb32.mono hb31.size)
          have d3 := (hb2.cell (p := ⟨b, off + a * 3, none⟩) (by exact Nat.lt_of_lt_of_le hb hsz)).trans d0
          have d4 := (hb2.cell (p := ⟨b, off + a * 3 + 1, none⟩) (by exact Nat.lt_of_lt_of_le hb hsz)).trans d1
          clear hb31 hb32
          go_wp2
          go_roundw
          case rel => exact ⟨q, c, rfl, by go_num, by omega, hql, HPQ.out, HR2.out, HB.out.trans (hb2.mono hsz)⟩
          case measure => (simp [intOf] <;> omega)
      · have hr := HGO.out
        rw [HMISS.out (fun h => hk h.1)] at hr
        have HR2 := Lib.hid hr
        clear hr
        go_wp2_with fail
        refine (HS1.out _ HB.out).mono ?_
        rintro e w3 ⟨rfl, hb31⟩
        have HB3 := Lib.hid (HB.out.trans (hb31.mono hsz))
        go_wp2_with fail
        refine (HS.out _ HB3.out).mono ?_
        rintro e w2 ⟨rfl, hb32⟩
        have hb2 := hb31.trans (hb32.mono hb31.size)
        have d3 := (hb2.cell (p := ⟨b, off + a * 3, none⟩) (by exact Nat.lt_of_lt_of_le hb hsz)).trans d0
        have d4 := (hb2.cell (p := ⟨b, off + a * 3 + 1, none⟩) (by exact Nat.lt_of_lt_of_le hb hsz)).trans d1
        clear hb31 hb32
        go_wp2
        go_roundw
        case rel => exact ⟨q, c, rfl, by go_num, by omega, hql, HPQ.out, HR2.out, HB.out.trans (hb2.mono hsz)⟩
        case measure => (simp [intOf] <;> omega)
end Go.Proofs.YtepinmeidjlmmaaDoor

/- The law CborLookups, walked. -/
namespace Go.Proofs.YtepinmeidjlmmaaDoor
open Go.RowKit
set_option maxRecDepth 100000

theorem look_both (l : List It) (v : Value) (key : Int) (w : World) (hI : ItemsAt w w.heap.size v l) (hcap : ∀ a c, v = .slice a l.length c → l.length ≤ c) (ht : Tabs w) (hlen : l.length ≤ 1000) :
    Calls Tryd.prog 27 #[v, .int .u64 key] w (LkP w l (lookE l key)) ∧ Calls Tryd.prog 28 #[v, .int .u64 key] w (LkP w l (lookE l key)) := by
  have hpos : ∀ x ∈ l, 0 ≤ x.n := fun x hx => (hI.ok x hx).1
  have hV := validate_any l v w hI ht
  have hVR := validR_any l v w hI ht
  rw [← valid_same l hpos] at hVR
  by_cases hz : validE l = 0
  · rw [hz] at hV hVR
    unfold lookE
    rw [if_pos hz]
    cases hx : l[0]? with
    | none =>
      have : l = [] := by
        cases l with
        | nil => rfl
        | cons a b => simp at hx
      rw [this] at hz
      exact absurd hz (by decide)
    | some x =>
      have hl0 : 0 < l.length := (List.getElem?_eq_some_iff.1 hx).1
      have e0 : l[0] = x := (List.getElem?_eq_some_iff.1 hx).2
      rcases hI.form with ⟨_, rfl⟩ | ⟨b, off, cap, rfl, hb, hc⟩
      · simp at hl0
      · dsimp only
        by_cases hk : x.k = 6
        · rw [if_pos hk]
          obtain ⟨hp, h512⟩ := valid_pairs l x hpos hz hx hk
          exact ⟨look_map l b off cap key x w hI (hcap _ _ rfl) hlen hx hk hp hV, lookR_map l b off cap key x w hI (hcap _ _ rfl) hlen hx hk h512 hp hVR⟩
        · rw [if_neg hk]
          have hc0 := (hc 0 hl0).1
          rw [e0] at hc0
          simp only [Nat.zero_mul, Nat.add_zero] at hc0
          exact ⟨look_other b off _ cap x.k key l w hl0 hk hb hc0 hV, lookR_other b off _ cap x.k key l w hl0 hk hb hc0 hVR⟩
  · unfold lookE
    rw [if_neg hz]
    exact ⟨look_bad v key _ l w hz hV, lookR_bad v key _ l w hz hVR⟩

theorem infoI3 : (Tryd.prog.info? 3).map (fun i => (i.zero, i.size, i.bytes)) = some (some (.int .i64 0), 1, 8) := by kernel_rfl
def nv (l : List Int) : List Value := l.map (Value.int .i64)
theorem nv_at (l : List Int) (j : Nat) (h : j < l.length) : (nv l)[j]? = some (.int .i64 (l.getD j 0)) := by
  simp only [nv, List.getElem?_map, List.getD]
  rw [List.getElem?_eq_getElem h]; rfl
theorem own_ints {w : World} {base n : Nat} {v : Value} {l : List Int} (h : w.ownsRow base 3 1 v n (nv l)) : ∃ A c, v = .slice A n c ∧ Ints w A n l := by
  have hl : l.length = n := by have := h.1; simp [nv] at this; omega
  rcases h.2 with ⟨hv, h0⟩ | ⟨g, cap, cur, hv, _, _, h1, h2, _⟩
  · subst h0
    exact ⟨none, 0, hv, hl, fun i hi => absurd hi (by omega)⟩
  · refine ⟨_, cap, hv, hl, fun i hi => ⟨_, rfl, ?_⟩⟩
    exact h.cells (g := g) (by rw [hv]; rfl) i _ (nv_at l i (by omega))
/-- append([]int{x}, l...) -/
theorem app_first {ops : Array Oper} {rest : List Oper} {o : Oper} {a : Act} {Q : Exit → Act → World → Prop} {w : World} (hgd : o.guard = none) (s x : Operand)
    (ho : o.op = .call { callee := .builtin .append, args := #[s, x], argTypes := #[30, 30] })
    (z : Int) (A : Option Addr) (n cap : Nat) (l : List Int) (hs : a.eval s = .slice (some ⟨w.heap.size, 0, none⟩) 1 1)
    (hI : Ints w A n l) (hx : a.eval x = .slice A n cap) (hn : (n + 1) * 8 ≤ 140737488355328)
    (h : ∀ A' c' w', Ints w' A' (1 + n) (z :: l) → Below w.heap.size w w' → wpList Tryd.prog ops Q rest (a.put o.dst (.slice A' (1 + n) c')) w') :
    wpList Tryd.prog ops Q (o :: rest) a (w.alloc (.cells #[.int .i64 z] 3)) := by
  obtain ⟨i0, hi, hz0, hz1, hz2⟩ := info_parts infoI3
  have hown : (w.alloc (.cells #[.int .i64 z] 3)).ownsRow w.heap.size 3 1 (.slice (some ⟨w.heap.size, 0, none⟩) 1 1) 1 (nv [z]) := World.ownsRow_lit w #[.int .i64 z] 1 (Nat.le_refl _) (by decide) rfl
  have hI2 : Ints (w.alloc (.cells #[.int .i64 z] 3)) A n l := hI.below ((Below.refl _ w).alloc (Nat.le_refl _) _)
  have hb0 : Below w.heap.size w (w.alloc (.cells #[.int .i64 z] 3)) := (Below.refl _ w).alloc (Nat.le_refl _) _
  rcases A with _ | ad
  · have hm : n = 0 := by
      rcases Nat.eq_zero_or_pos n with h0 | h0
      · exact h0
      · obtain ⟨_, e, _⟩ := hI.at_ 0 h0
        cases e
    subst hm
    have hl : l = [] := List.eq_nil_of_length_eq_zero hI.len
    subst hl
    refine wpList_plain hgd fun K hK => ?_
    have hr : (Builtin.append_ #[30, 30] o.type #[.slice (some ⟨w.heap.size, 0, none⟩) 1 1, .slice none 0 cap]).run Tryd.prog (w.alloc (.cells #[.int .i64 z] 3)) = .ok (.slice (some ⟨w.heap.size, 0, none⟩) 1 1) (w.alloc (.cells #[.int .i64 z] 3)) := by
      simp [Builtin.append_, run_underlying Tryd.underlying30, sizeOf, typeInfo, hi, Builtin.lenOf, Builtin.firstCells, storeCells]
    unfold Oper.wp execOp
    simp only [ho, resolve, invoke, builtin, Sem.run_bind, Sem.run_pure, Result.andThen_ok, List.map_toArray, List.map_cons, List.map_nil, hs, hx, hr]
    obtain ⟨A', c', e, hN⟩ := own_ints hown
    cases e
    exact hK _ _ (h _ _ _ hN hb0)
  · have hcells : ∀ j u, (nv l)[j]? = some u → (w.alloc (.cells #[.int .i64 z] 3)).cell? (ad.add j) = some u := by
      intro j u hj
      have hjm : j < l.length := by
        rcases Nat.lt_or_ge j l.length with h1 | h1
        · exact h1
        · rw [List.getElem?_eq_none (by simpa [nv] using h1)] at hj; cases hj
      rw [nv_at l j hjm] at hj
      cases hj
      obtain ⟨a2, e, hc⟩ := hI2.at_ j (by have := hI.len; omega)
      cases e
      exact hc
    refine wpList_append_own _ hgd s x 30 ho w.heap.size 3 i0 (.int .i64 0) 1 8 Tryd.underlying30 hi hz0 hz1 hz2 rfl (by decide) _ 1 (nv [z]) hs hown ad n cap (nv l) hx (by have := hI.len; simp [nv]; omega) hcells (by intro u hu; simp only [nv, List.mem_map] at hu; obtain ⟨y, _, rfl⟩ := hu; rfl) (by unfold maxLen; omega) (by omega) (by simp) ?_
    intro v' w' h1 h2 _
    have h3 : w'.ownsRow w.heap.size 3 1 v' (1 + n) (nv (z :: l)) := h1
    obtain ⟨A', c', rfl, hN⟩ := own_ints h3
    exact h A' c' w' hN (hb0.trans (below_of_grown hown (by simp) h2))

theorem ItemsAt.drewN {w : World} {B : Nat} {v : Value} {l : List It} (h : ItemsAt w B v l) (m : Nat) : ItemsAt (w.drewN m) B v l := ⟨h.form, h.ok, h.len⟩
theorem below_dN {B : Nat} {u w : World} (h : Below B u w) (m : Nat) : Below B u (w.drewN m) := ⟨h.os, h.tape, h.output, h.size, h.block⟩
set_option maxHeartbeats 2000000 in
theorem lookups_law (A : Option Addr) (n cap : Nat) (l : List Int) (y key : Int) (w : World) (h : Ints w A n l) (hn : (n + 1) * 8 ≤ 140737488355328) (ht : Tabs w) :
    Calls Tryd.prog 10 #[.slice A n cap, .int .i64 y, .int .u64 key] w fun e w' => e = .returned (.bool true) ∧ Below w.heap.size w w' := by
  have HH := Lib.hid h
  have HT := Lib.hid ht
  have hand : bits .and .i64 y 1048575 = y % 1048576 := bits_low 20 (by decide) y
  obtain ⟨m, hm⟩ : ∃ m : Nat, y % 1048576 = m := ⟨(y % 1048576).toNat, by have := Int.emod_nonneg y (show (1048576 : Int) ≠ 0 by decide); omega⟩
  clear h ht
  go_enter Tryd.func10, Tryd.ntmps10
  go_wp2_with (first
    | (at_builtin; refine app_first rfl _ _ rfl 31 A n cap l rfl HH.out rfl hn ?_; intro A1 c1 w1 hI1 hb1)
    | fail)
  refine (Tree_any A1 (1 + n) c1 (31 :: l) w1 hI1 (by omega)).mono ?_
  rintro e w2 ⟨g, c, rfl, ho, hb⟩
  have HI := Lib.hid (tree_items ho)
  have hcap := own_cap ho
  have HB1 := Lib.hid (hb1.trans (hb.mono hb1.size))
  have hs1 := HB1.out.size
  clear ho hb hb1 hI1
  have htl := treeL_len (31 :: l)
  have htame := whole_tame (31 :: l)
  have htne := treeL_ne (31 :: l)
  generalize treeL (31 :: l) = xs at *
  go_wp2_with fail
  refine (spoil_any g 0 c m xs w2 HI.out htame htne (Nat.le_trans htl (by decide))).mono ?_
  rintro e w3 ⟨ys, A2, c2, rfl, hI2, hb2, _, hl2, hcp2⟩
  have HI1 := Lib.hid (HI.out.below hb2)
  have HI2 := Lib.hid hI2
  have hs23 := hb2.size
  have HB2 := Lib.hid (HB1.out.trans (hb2.mono hs1))
  have hs3 := HB2.out.size
  have hx : ∀ (k : Int) (W : World), Below w3.heap.size w3 W → Calls Tryd.prog 27 #[.slice (some ⟨g, 0, none⟩) xs.length c, .int .u64 k] W (LkP W xs (lookE xs k)) ∧ Calls Tryd.prog 28 #[.slice (some ⟨g, 0, none⟩) xs.length c, .int .u64 k] W (LkP W xs (lookE xs k)) := fun k W hW =>
    look_both xs _ k W (itemsAt_mono (HI1.out.below (hW.mono hs23)) (Nat.le_trans hs23 hW.size)) (fun a c' e => by cases e; exact hcap) (HT.out.later (HB2.out.trans (hW.mono hs3))) (by omega)
  have hy : ∀ (k : Int) (W : World), Below w3.heap.size w3 W → Calls Tryd.prog 27 #[.slice A2 ys.length c2, .int .u64 k] W (LkP W ys (lookE ys k)) ∧ Calls Tryd.prog 28 #[.slice A2 ys.length c2, .int .u64 k] W (LkP W ys (lookE ys k)) := fun k W hW =>
    look_both ys _ k W (itemsAt_mono (HI2.out.below hW) hW.size) (fun a c' e => by cases e; exact hcp2) (HT.out.later (HB2.out.trans (hW.mono hs3))) (by omega)
  have HX := Lib.hid hx
  have HY := Lib.hid hy
  clear hI2 hb2 hx hy hcap hcp2 hl2 htame htne htl
  obtain ⟨rx, hrx⟩ : ∃ rx, lookE xs = rx := ⟨_, rfl⟩
  obtain ⟨ry, hry⟩ : ∃ ry, lookE ys = ry := ⟨_, rfl⟩
  rw [hrx] at HX
  rw [hry] at HY
  clear hrx hry
  generalize xs.length = N at *
  generalize ys.length = M at *
  go_wp2
  go_loopw [9] (fun i wr => ∃ j : Nat, i = .int .u64 j ∧ j ≤ 3 ∧ Below w3.heap.size w3 wr) (fun i _ => 3 - (intOf i).toNat)
  case atStart => exact ⟨0, rfl, by omega, Below.refl _ _⟩
  case round =>
    obtain ⟨j, rfl, hj, hbk⟩ := hrel
    have HB := Lib.hid hbk
    clear hbk
    by_cases hj3 : j < 3
    · go_wp2_with fail
      refine (HY.out _ _ HB.out).1.mono ?_
      rintro e w4 ⟨v4, rfl, hb4, hI4⟩
      have HB4 := Lib.hid (HB.out.trans (hb4.mono HB.out.size))
      go_wp2_with fail
      refine (HY.out _ _ HB4.out).2.mono ?_
      rintro e w5 ⟨v5, rfl, hb5, hI5⟩
      have HB5 := Lib.hid (HB4.out.trans (hb5.mono HB4.out.size))
      have hI4 := hI4.below hb5
      go_wp2_with fail
      refine (HX.out _ _ HB5.out).1.mono ?_
      rintro e w6 ⟨v6, rfl, hb6, hI6⟩
      have HB6 := Lib.hid (HB5.out.trans (hb6.mono HB5.out.size))
      have hI4 := hI4.below (hb6.mono hb5.size)
      have hI5 := hI5.below hb6
      go_wp2_with fail
      refine (HX.out _ _ HB6.out).2.mono ?_
      rintro e w7 ⟨v7, rfl, hb7, hI7⟩
      have HB7 := Lib.hid (HB6.out.trans (hb7.mono HB6.out.size))
      have HI4 := Lib.hid (hI4.below (hb7.mono (Nat.le_trans hb5.size hb6.size)))
      have HI5 := Lib.hid (hI5.below (hb7.mono hb6.size))
      have HI6 := Lib.hid (hI6.below hb7)
      have HI7 := Lib.hid hI7
      clear hI4 hI5 hI6 hI7 hb4 hb5 hb6 hb7
      go_wp2_with fail
      refine (same_any v4 v5 _ _ _ _ HI4.out HI5.out).mono ?_
      rintro e w8 ⟨rfl, m8, rfl⟩
      go_wp2_with fail
      refine (same_any v6 v7 _ _ _ _ (HI6.out.drewN m8) (HI7.out.drewN m8)).mono ?_
      rintro e w9 ⟨rfl, m9, rfl⟩
      go_wp2
      go_roundw
      case rel => exact ⟨j + 1, by go_num, by omega, below_dN HB7.out (m8 + m9)⟩
      case measure => (simp [intOf] <;> omega)
    · have hj' : j = 3 := by omega
      subst hj'
      go_wp2_with fail
      refine (HX.out _ _ HB.out).1.mono ?_
      rintro e w6 ⟨v6, rfl, hb6, hI6⟩
      have HB6 := Lib.hid (HB.out.trans (hb6.mono HB.out.size))
      go_wp2_with fail
      refine (HX.out _ _ HB6.out).2.mono ?_
      rintro e w7 ⟨v7, rfl, hb7, hI7⟩
      have HB7 := Lib.hid (HB2.out.trans ((HB6.out.trans (hb7.mono HB6.out.size)).mono hs3))
      have HI6 := Lib.hid (hI6.below hb7)
      have HI7 := Lib.hid hI7
      clear hI6 hI7 hb6 hb7
      go_wp2_with fail
      refine (same_any v6 v7 _ _ _ _ HI6.out HI7.out).mono ?_
      rintro e w8 ⟨rfl, m8, rfl⟩
      have HB8 := Lib.hid (below_dN HB7.out m8)
      go_wp2_with fail
      refine (awake_any _ (HT.out.later HB8.out)).mono ?_
      rintro e w9 ⟨rfl, hb9⟩
      go_wp2
      go_ret
      exact ⟨rfl, below_aft HB8.out hb9⟩
end Go.Proofs.YtepinmeidjlmmaaDoor

/- A []int argument, opened, with what the row's reach says of its length. -/
namespace Go.Proofs.YtepinmeidjlmmaaDoor
open Go.ChangeShapes Go.WideShapes Go.ChangeAt Go.RowKit
set_option maxRecDepth 100000

theorem tryd_bytes3 : Tryd.prog.bytesOf 3 = 8 := by kernel_rfl
theorem open_nums_sz {H : Type} {enc : TypeId × Value → H} {W : World} {b0 base : Nat} {r : Reach} {v : Value} {d : DataW H} {ps : List MemPlace} (hval : Value.okWide Tryd.prog W r b0 30 v) (hd : DataW.Trod enc Tryd.prog W base (fun _ => true) true 30 v d ps)
    {ts : List TypeId} {ds : List (DataW H)} (hsz : (DataW.weightsEach Tryd.prog ts ds).all (· ≤ reachBytes) = true) {j : Nat} (ht : ts[j]? = some 30) (hj : ds[j]? = some d) :
    ∃ (A : Option Addr) (n cap : Nat) (l : List Int), v = .slice A n cap ∧ (n + 1) * 8 ≤ 140737488355328 ∧ Ints W A n l := by
  obtain ⟨a0, len, cap, rfl⟩ := okWide_slice Tryd.underlying30 hval
  obtain ⟨fuel, hf⟩ := hd
  rcases open_ints Tryd.underlying30 Tryd.underlying3 tryd_cells3 hf with ⟨hcs, hx⟩ | ⟨a, len', cap', zs, hcs, _, hl, hm, hz, hx, hcell, hwz⟩
  · simp [Value.cells] at hcs
    obtain ⟨rfl, rfl, rfl⟩ := hcs
    exact ⟨none, 0, 0, [], rfl, by omega, rfl, fun i hi => absurd hi (by omega)⟩
  · simp [Value.cells] at hcs
    obtain ⟨rfl, rfl, rfl⟩ := hcs
    simp only [if_true] at hz
    obtain ⟨rfl, rfl⟩ := Prod.mk.inj hx
    have hw := sized_slice hsz ht hj Tryd.underlying30
    rw [tryd_bytes3] at hw
    simp only [lits, List.length_map, List.length_take, List.length_drop, reachBytes] at hw
    refine ⟨some a, len, cap, zs.take len, rfl, by omega, by simp; omega, fun i hi => ⟨a, rfl, ?_⟩⟩
    rw [hcell i (by omega)]
    simp [List.getD, hi]
end Go.Proofs.YtepinmeidjlmmaaDoor

/- The reference's reader: its head. -/
namespace Go.Proofs.YtepinmeidjlmmaaDoor
open Go.RowKit
set_option maxRecDepth 100000

/-- the reader at p: its text, its place, what it has read -/
def Rr (w : World) (p : Nat) (S : ByteArray) (a : Nat) (v : Value) : Prop := w.heap[p]? = some (.cells #[.string S, .int .i64 (a : Int), v] 82 (0, 0))
theorem Rr.lt {w : World} {p : Nat} {S : ByteArray} {a : Nat} {v : Value} (h : Rr w p S a v) : p < w.heap.size := lt_of_heap h
theorem Rr.c0 {w : World} {p : Nat} {S : ByteArray} {a : Nat} {v : Value} (h : Rr w p S a v) : w.cell? ⟨p, 0, none⟩ = some (.string S) := by unfold Rr at h; simp [World.cell?, h]
theorem Rr.c1 {w : World} {p : Nat} {S : ByteArray} {a : Nat} {v : Value} (h : Rr w p S a v) : w.cell? ⟨p, 1, none⟩ = some (.int .i64 (a : Int)) := by unfold Rr at h; simp [World.cell?, h]
theorem Rr.c2 {w : World} {p : Nat} {S : ByteArray} {a : Nat} {v : Value} (h : Rr w p S a v) : w.cell? ⟨p, 2, none⟩ = some v := by unfold Rr at h; simp [World.cell?, h]
theorem Rr.fz {w : World} {p : Nat} {S : ByteArray} {a : Nat} {v : Value} (h : Rr w p S a v) (i : Nat) : w.frozen? ⟨p, i, none⟩ = false := by unfold Rr at h; simp [World.frozen?, h]
theorem Rr.set1 {w : World} {p : Nat} {S : ByteArray} {a : Nat} {v : Value} (h : Rr w p S a v) (a2 : Nat) : Rr (w.setCell ⟨p, 1, none⟩ (.int .i64 (a2 : Int))) p S a2 v := by
  unfold Rr at h ⊢; simp [World.setCell, Array.getElem?_modify, h]
theorem Rr.set1z {w : World} {p : Nat} {S : ByteArray} {a : Nat} {v : Value} (h : Rr w p S a v) (a2 : Nat) {z : Int} (hz : z = (a2 : Int)) : Rr (w.setCell ⟨p, 1, none⟩ (.int .i64 z)) p S a2 v := by
  subst hz
  exact h.set1 a2
theorem Rr.set2 {w : World} {p : Nat} {S : ByteArray} {a : Nat} {v : Value} (h : Rr w p S a v) (v2 : Value) : Rr (w.setCell ⟨p, 2, none⟩ v2) p S a v2 := by
  unfold Rr at h ⊢; simp [World.setCell, Array.getElem?_modify, h]
theorem Rr.far {w : World} {p : Nat} {S : ByteArray} {a : Nat} {v : Value} (h : Rr w p S a v) {B : Nat} (hne : p ≠ B) (j : Nat) (u : Value) : Rr (w.setCell ⟨B, j, none⟩ u) p S a v :=
  (heap_setCell_other w _ p u hne).trans h
theorem Rr.below {w w' : World} {p B : Nat} {S : ByteArray} {a : Nat} {v : Value} (h : Rr w p S a v) (hb : Below B w w') (hp : p < B) : Rr w' p S a v := (hb.block p hp).trans h

/-- nothing but block p has changed among the blocks below B; new ones may have come -/
structure Rx (B p : Nat) (w w' : World) : Prop where
  os : w'.os = w.os
  tape : w'.tape = w.tape
  output : w'.output = w.output
  size : w.heap.size ≤ w'.heap.size
  block : ∀ k, k < B → k ≠ p → w'.heap[k]? = w.heap[k]?
theorem Rx.refl (B p : Nat) (w : World) : Rx B p w w := ⟨rfl, rfl, rfl, Nat.le_refl _, fun _ _ _ => rfl⟩
theorem Rx.trans {B p : Nat} {u v w : World} (h : Rx B p u v) (k : Rx B p v w) : Rx B p u w :=
  ⟨k.os.trans h.os, k.tape.trans h.tape, k.output.trans h.output, Nat.le_trans h.size k.size, fun i hi hne => (k.block i hi hne).trans (h.block i hi hne)⟩
theorem Rx.mono {B B' p : Nat} {u v : World} (h : Rx B p u v) (hb : B' ≤ B) : Rx B' p u v := ⟨h.os, h.tape, h.output, h.size, fun i hi hne => h.block i (Nat.lt_of_lt_of_le hi hb) hne⟩
theorem Rx.of_below {B p : Nat} {w w' : World} (h : Below B w w') : Rx B p w w' := ⟨h.os, h.tape, h.output, h.size, fun k hk _ => h.block k hk⟩
theorem Rx.below {B p : Nat} {w w' : World} (h : Rx B p w w') (hp : p ≤ B) : Below p w w' := ⟨h.os, h.tape, h.output, h.size, fun k hk => h.block k (by omega) (by omega)⟩
theorem Rx.set {B p : Nat} {u w : World} (h : Rx B p u w) (i : Nat) (v : Value) : Rx B p u (w.setCell ⟨p, i, none⟩ v) :=
  ⟨h.os, h.tape, h.output, by simpa [World.setCell] using h.size, fun k hk hne => (heap_setCell_other w _ k v hne).trans (h.block k hk hne)⟩
theorem Rx.setNew {B p g : Nat} {u w : World} (h : Rx B p u w) (hg : B ≤ g) (i : Nat) (v : Value) : Rx B p u (w.setCell ⟨g, i, none⟩ v) :=
  ⟨h.os, h.tape, h.output, by simpa [World.setCell] using h.size, fun k hk hne => (heap_setCell_other w _ k v (by show k ≠ g; omega)).trans (h.block k hk hne)⟩
theorem Rx.drew {B p : Nat} {u w : World} (h : Rx B p u w) : Rx B p u w.drew := ⟨h.os, h.tape, h.output, h.size, h.block⟩
theorem Rx.alloc {B p : Nat} {u w : World} (h : Rx B p u w) (hB : B ≤ w.heap.size) (o : Obj) : Rx B p u (w.alloc o) := h.trans (Rx.of_below ((Below.refl B w).alloc hB o))

/-- what a head answers, and what it leaves -/
def HdP (p : Nat) (S : ByteArray) (v : Value) (h : Int × Int × Int × Nat) (w : World) (e : Ending) (w' : World) : Prop :=
  e = .returned (.tuple #[itemV h.1 h.2.1 ⟨#[]⟩, .int .i64 h.2.2.1]) ∧ Rx w.heap.size p w w' ∧ (h.2.2.1 = 0 → Rr w' p S h.2.2.2 v)

theorem size58 : (Tryd.prog.info? 58).map (·.size) = some 3 := by kernel_rfl
theorem hd_end {a : Act} {W : World} {R : Nat} {k n e : Int} {d : ByteArray} {post : Ending → World → Prop} (hd : a.defers = []) (h2 : a.tmps.getD 2 undef = .pointer (some ⟨R, 0, none⟩)) (h3 : a.tmps.getD 3 undef = .int .i64 e) (hX : Box W R k n d)
    (hp : post (.returned (.tuple #[itemV k n d, .int .i64 e])) W) : bodyPost Tryd.prog Tryd.f67 post Exit.ret a W := by
  refine bodyPost_ret (v := .tuple #[itemV k n d, .int .i64 e]) ?_ hd hp
  have hl : (loadVar 58 ⟨R, 0, none⟩).run Tryd.prog W = .ok (itemV k n d) W := run_loadVar_row W R 58 58 _ (0, 0) _ hX Tryd.underlying58 rfl (by rw [size58]; rfl)
  simp only [Array.getD_eq_getD_getElem?] at h2 h3
  simp [results, Tryd.results67, asAddr, h2, h3, hl]

theorem hd_fin {w W : World} {p B R a : Nat} {S : ByteArray} {v : Value} {k0 n0 : Int} {d0 : ByteArray} (hR : Rr W p S a v) (hX : Box W R k0 n0 d0) (hB : Rx B p w W) (hne : R ≠ p) (hBR : B ≤ R) (a2 : Nat) (z : Int) (hz : z = (a2 : Int)) (o1 o2 : Obj) (k n : Int) (d : ByteArray) :
    Box ((((((W.setCell ⟨p, 1, none⟩ (.int .i64 z)).setCell ⟨R, 0, none⟩ (.int .i64 k)).setCell ⟨R, 1, none⟩ (.int .u64 n)).setCell ⟨R, 2, none⟩ (.string d)).alloc o1).alloc o2) R k n d ∧
    Rx B p w ((((((W.setCell ⟨p, 1, none⟩ (.int .i64 z)).setCell ⟨R, 0, none⟩ (.int .i64 k)).setCell ⟨R, 1, none⟩ (.int .u64 n)).setCell ⟨R, 2, none⟩ (.string d)).alloc o1).alloc o2) ∧
    Rr ((((((W.setCell ⟨p, 1, none⟩ (.int .i64 z)).setCell ⟨R, 0, none⟩ (.int .i64 k)).setCell ⟨R, 1, none⟩ (.int .u64 n)).setCell ⟨R, 2, none⟩ (.string d)).alloc o1).alloc o2) p S a2 v := by
  have hp := hR.lt
  have hRl := hX.lt
  have h1 := (hX.far hne 1 (.int .i64 z)).set3 (k := k) (n := n) (d := d)
  have r1 := (((hR.set1z a2 hz).far (fun e => hne e.symm) 0 (.int .i64 k)).far (fun e => hne e.symm) 1 (.int .u64 n)).far (fun e => hne e.symm) 2 (.string d)
  have x1 := (((hB.set 1 (.int .i64 z)).setNew hBR 0 (.int .i64 k)).setNew hBR 1 (.int .u64 n)).setNew hBR 2 (.string d)
  generalize ((((W.setCell ⟨p, 1, none⟩ (.int .i64 z)).setCell ⟨R, 0, none⟩ (.int .i64 k)).setCell ⟨R, 1, none⟩ (.int .u64 n)).setCell ⟨R, 2, none⟩ (.string d)) = V at *
  have b1 : Below V.heap.size V ((V.alloc o1).alloc o2) := ((Below.refl _ _).alloc (Nat.le_refl _) o1).alloc (by simp) o2
  have hBV : B ≤ V.heap.size := by have := h1.lt; omega
  exact ⟨(b1.block R h1.lt).trans h1, x1.trans (Rx.of_below (b1.mono hBV)), r1.below b1 r1.lt⟩
theorem hd_fin1 {w W : World} {p B R : Nat} {k0 n0 : Int} {d0 : ByteArray} (hX : Box W R k0 n0 d0) (hB : Rx B p w W) (hBR : B ≤ R) (o1 : Obj) (k n : Int) (d : ByteArray) :
    Box (((((W.setCell ⟨R, 0, none⟩ (.int .i64 k)).setCell ⟨R, 1, none⟩ (.int .u64 n)).setCell ⟨R, 2, none⟩ (.string d)).alloc o1)) R k n d ∧
    Rx B p w (((((W.setCell ⟨R, 0, none⟩ (.int .i64 k)).setCell ⟨R, 1, none⟩ (.int .u64 n)).setCell ⟨R, 2, none⟩ (.string d)).alloc o1)) := by
  have h1 := hX.set3 (k := k) (n := n) (d := d)
  have x1 := ((hB.setNew hBR 0 (.int .i64 k)).setNew hBR 1 (.int .u64 n)).setNew hBR 2 (.string d)
  generalize (((W.setCell ⟨R, 0, none⟩ (.int .i64 k)).setCell ⟨R, 1, none⟩ (.int .u64 n)).setCell ⟨R, 2, none⟩ (.string d)) = V at *
  have b1 : Below V.heap.size V (V.alloc o1) := (Below.refl _ _).alloc (Nat.le_refl _) o1
  have hBV : B ≤ V.heap.size := by have := h1.lt; omega
  exact ⟨(b1.block R h1.lt).trans h1, x1.trans (Rx.of_below (b1.mono hBV))⟩
theorem kinds_at (M : Nat) (hM : M ≤ 5) (p : Nat) (z : Value) (o1 : Obj) (W : World) :
    (((W.setCell ⟨p, 1, none⟩ z).alloc o1).alloc (.cells #[.int .i64 1, .int .i64 2, .int .i64 3, .int .i64 4, .int .i64 5, .int .i64 6] 3)).cell? ⟨W.heap.size + 1, M, none⟩ = some (.int .i64 (1 + (M : Int))) := by
  have h := heap_new ((W.setCell ⟨p, 1, none⟩ z).alloc o1) (.cells #[.int .i64 1, .int .i64 2, .int .i64 3, .int .i64 4, .int .i64 5, .int .i64 6] 3)
  have e : ((W.setCell ⟨p, 1, none⟩ z).alloc o1).heap.size = W.heap.size + 1 := by simp
  rw [e] at h
  have hm : M = 0 ∨ M = 1 ∨ M = 2 ∨ M = 3 ∨ M = 4 ∨ M = 5 := by omega
  rw [cell_of_row _ _ M _ _ _ h]
  rcases hm with rfl | rfl | rfl | rfl | rfl | rfl <;> rfl
set_option maxHeartbeats 1000000 in
theorem hdr_short (p : Nat) (S : ByteArray) (a : Nat) (v : Value) (w : World) (h : Rr w p S a v) (ha : S.size ≤ a) :
    Calls Tryd.prog 67 #[.pointer (some ⟨p, 0, none⟩)] w (HdP p S v (0, 0, 1, a) w) := by
  have hp := h.lt
  have H := Lib.hid h
  clear h
  go_enter Tryd.func67, Tryd.ntmps67
  go_wp2_with fail
  refine gen_world (fun W => Rr W p S a v ∧ Below w.heap.size w W ∧ Box W w.heap.size 0 0 ⟨#[]⟩) ⟨H.out.below ((Below.refl _ w).alloc (Nat.le_refl _) _) hp, (Below.refl _ w).alloc (Nat.le_refl _) _, Box.new w 0 0 ⟨#[]⟩⟩ ?_
  rintro W ⟨hR, hB, hX⟩
  have c0 := hR.c0
  have c1 := hR.c1
  obtain ⟨b0, b1, b2, f0, f1, f2⟩ := hX.cells
  have HB := Lib.hid (Rx.of_below (p := p) hB)
  have HX := Lib.hid hX
  clear hR hX hB
  go_region
  go_wp2
  exact hd_end rfl rfl rfl (HX.out.set3 (k := 0) (n := 0) (d := ⟨#[]⟩)) ⟨rfl, (((HB.out.setNew (Nat.le_refl _) _ _).setNew (Nat.le_refl _) _ _).setNew (Nat.le_refl _) _ _).drew, fun h => by cases h⟩
theorem idx_str {S : ByteArray} {i : Nat} {x : Int} (hi : i < S.size) (hx : (dataI S).getD i 0 = x) (W : World) :
    (Instr.index 9 (.string S) (.int .i64 (i : Int))).run Tryd.prog W = .ok (.int .u8 x) W := by
  have hb : S[i]? = some S[i] := by simp [hi]
  have he : ((S[i].toNat : Nat) : Int) = x := by
    rw [← hx]
    have hl : i < S.data.toList.length := by simpa using hi
    simp only [dataI, List.getD, List.getElem?_map]
    rw [List.getElem?_eq_getElem hl]
    simp
    rfl
  simp [Instr.index, asIntOf, run_underlying Tryd.underlying9, hb, he]
theorem byte_rng {S : ByteArray} {i : Nat} {x : Int} (hx : (dataI S).getD i 0 = x) : 0 ≤ x ∧ x ≤ 255 := by
  rw [← hx]
  simp only [List.getD]
  by_cases h : i < (dataI S).length
  · rw [List.getElem?_eq_getElem h]
    exact dataI_rng S _ (List.getElem_mem h)
  · rw [List.getElem?_eq_none (by omega)]
    simp

set_option maxHeartbeats 1000000 in
theorem hdr_244 (p : Nat) (S : ByteArray) (a : Nat) (v : Value) (w : World) (h : Rr w p S a v) (ha : a < S.size) (hs : S.size ≤ 9000000000000000) (hx : (dataI S).getD a 0 = 244) :
    Calls Tryd.prog 67 #[.pointer (some ⟨p, 0, none⟩)] w (HdP p S v (7, 0, 0, a + 1) w) := by
  have hp := h.lt
  have hix := fun W => idx_str (S := S) ha hx W
  have H := Lib.hid h
  clear h
  go_enter Tryd.func67, Tryd.ntmps67
  go_wp2_with fail
  refine gen_world (fun W => Rr W p S a v ∧ Below w.heap.size w W ∧ Box W w.heap.size 0 0 ⟨#[]⟩) ⟨H.out.below ((Below.refl _ w).alloc (Nat.le_refl _) _) hp, (Below.refl _ w).alloc (Nat.le_refl _) _, Box.new w 0 0 ⟨#[]⟩⟩ ?_
  rintro W ⟨hR, hB, hX⟩
  have c0 := hR.c0
  have c1 := hR.c1
  have g1 := hR.fz 1
  obtain ⟨b0, b1, b2, f0, f1, f2⟩ := hX.cells
  have HB := Lib.hid (Rx.of_below (p := p) hB)
  have HX := Lib.hid hX
  have HR := Lib.hid hR
  have hne : w.heap.size ≠ p := by omega
  have hpn : p ≠ w.heap.size := by omega
  clear hR hX hB
  go_region
  go_wp2
  go_region
  go_wp2
  exact hd_end rfl rfl rfl ((HX.out.far hne 1 _).set3 (k := 7) (n := 0) (d := ⟨#[]⟩)) ⟨rfl, ((((HB.out.set 1 _).setNew (Nat.le_refl _) _ _).setNew (Nat.le_refl _) _ _).setNew (Nat.le_refl _) _ _).drew.drew, fun _ => (((HR.out.set1z (a + 1) (by omega)).far hpn 0 _).far hpn 1 _).far hpn 2 _⟩

set_option maxHeartbeats 1000000 in
theorem hdr_245 (p : Nat) (S : ByteArray) (a : Nat) (v : Value) (w : World) (h : Rr w p S a v) (ha : a < S.size) (hs : S.size ≤ 9000000000000000) (hx : (dataI S).getD a 0 = 245) :
    Calls Tryd.prog 67 #[.pointer (some ⟨p, 0, none⟩)] w (HdP p S v (7, 1, 0, a + 1) w) := by
  have hp := h.lt
  have hix := fun W => idx_str (S := S) ha hx W
  have H := Lib.hid h
  clear h
  go_enter Tryd.func67, Tryd.ntmps67
  go_wp2_with fail
  refine gen_world (fun W => Rr W p S a v ∧ Below w.heap.size w W ∧ Box W w.heap.size 0 0 ⟨#[]⟩) ⟨H.out.below ((Below.refl _ w).alloc (Nat.le_refl _) _) hp, (Below.refl _ w).alloc (Nat.le_refl _) _, Box.new w 0 0 ⟨#[]⟩⟩ ?_
  rintro W ⟨hR, hB, hX⟩
  have c0 := hR.c0
  have c1 := hR.c1
  have g1 := hR.fz 1
  obtain ⟨b0, b1, b2, f0, f1, f2⟩ := hX.cells
  have HB := Lib.hid (Rx.of_below (p := p) hB)
  have HX := Lib.hid hX
  have HR := Lib.hid hR
  have hne : w.heap.size ≠ p := by omega
  have hpn : p ≠ w.heap.size := by omega
  clear hR hX hB
  go_region
  go_wp2
  go_region
  go_wp2
  exact hd_end rfl rfl rfl ((HX.out.far hne 1 _).set3 (k := 7) (n := 1) (d := ⟨#[]⟩)) ⟨rfl, ((((HB.out.set 1 _).setNew (Nat.le_refl _) _ _).setNew (Nat.le_refl _) _ _).setNew (Nat.le_refl _) _ _).drew.drew, fun _ => (((HR.out.set1z (a + 1) (by omega)).far hpn 0 _).far hpn 1 _).far hpn 2 _⟩

set_option maxHeartbeats 1000000 in
theorem hdr_246 (p : Nat) (S : ByteArray) (a : Nat) (v : Value) (w : World) (h : Rr w p S a v) (ha : a < S.size) (hs : S.size ≤ 9000000000000000) (hx : (dataI S).getD a 0 = 246) :
    Calls Tryd.prog 67 #[.pointer (some ⟨p, 0, none⟩)] w (HdP p S v (8, 0, 0, a + 1) w) := by
  have hp := h.lt
  have hix := fun W => idx_str (S := S) ha hx W
  have H := Lib.hid h
  clear h
  go_enter Tryd.func67, Tryd.ntmps67
  go_wp2_with fail
  refine gen_world (fun W => Rr W p S a v ∧ Below w.heap.size w W ∧ Box W w.heap.size 0 0 ⟨#[]⟩) ⟨H.out.below ((Below.refl _ w).alloc (Nat.le_refl _) _) hp, (Below.refl _ w).alloc (Nat.le_refl _) _, Box.new w 0 0 ⟨#[]⟩⟩ ?_
  rintro W ⟨hR, hB, hX⟩
  have c0 := hR.c0
  have c1 := hR.c1
  have g1 := hR.fz 1
  obtain ⟨b0, b1, b2, f0, f1, f2⟩ := hX.cells
  have HB := Lib.hid (Rx.of_below (p := p) hB)
  have HX := Lib.hid hX
  have HR := Lib.hid hR
  have hne : w.heap.size ≠ p := by omega
  have hpn : p ≠ w.heap.size := by omega
  clear hR hX hB
  go_region
  go_wp2
  go_region
  go_wp2
  exact hd_end rfl rfl rfl ((HX.out.far hne 1 _).set3 (k := 8) (n := 0) (d := ⟨#[]⟩)) ⟨rfl, ((((HB.out.set 1 _).setNew (Nat.le_refl _) _ _).setNew (Nat.le_refl _) _ _).setNew (Nat.le_refl _) _ _).drew.drew, fun _ => (((HR.out.set1z (a + 1) (by omega)).far hpn 0 _).far hpn 1 _).far hpn 2 _⟩

set_option maxHeartbeats 1000000 in
theorem hdr_bad1 (p : Nat) (S : ByteArray) (a : Nat) (v : Value) (w : World) (h : Rr w p S a v) (ha : a < S.size) (x m l : Int) (hx : (dataI S).getD a 0 = x) (hc : x ≠ 244 ∧ x ≠ 245 ∧ x ≠ 246) (hm : x / 32 = m) (hl : x % 32 = l) (hbad : 5 < m) :
    Calls Tryd.prog 67 #[.pointer (some ⟨p, 0, none⟩)] w (HdP p S v (0, 0, 2, a) w) := by
  have hp := h.lt
  have hix := fun W => idx_str (S := S) ha hx W
  have H := Lib.hid h
  clear h
  obtain ⟨q0, q1⟩ := byte_rng hx
  have han := and31 x q0 q1
  rw [hl] at han
  have m0 : 0 ≤ m ∧ m ≤ 7 := by omega
  have l0 : 0 ≤ l ∧ l ≤ 31 := by omega
  have y1 : (x == 244) = false := by simp; omega
  have y2 : (x == 245) = false := by simp; omega
  have y3 : (x == 246) = false := by simp; omega
  clear hx hl
  go_enter Tryd.func67, Tryd.ntmps67
  go_wp2_with fail
  refine gen_world (fun W => Rr W p S a v ∧ Below w.heap.size w W ∧ Box W w.heap.size 0 0 ⟨#[]⟩) ⟨H.out.below ((Below.refl _ w).alloc (Nat.le_refl _) _) hp, (Below.refl _ w).alloc (Nat.le_refl _) _, Box.new w 0 0 ⟨#[]⟩⟩ ?_
  rintro W ⟨hR, hB, hX⟩
  have c0 := hR.c0
  have c1 := hR.c1
  have g1 := hR.fz 1
  obtain ⟨b0, b1, b2, f0, f1, f2⟩ := hX.cells
  have HB := Lib.hid (Rx.of_below (p := p) hB)
  have HX := Lib.hid hX
  have HR := Lib.hid hR
  have hne : w.heap.size ≠ p := by omega
  have hpn : p ≠ w.heap.size := by omega
  clear hR hX hB
  go_region
  go_wp2
  go_region
  go_wp2
  exact hd_end rfl rfl rfl (HX.out.set3 (k := 0) (n := 0) (d := ⟨#[]⟩)) ⟨rfl, (((HB.out.setNew (Nat.le_refl _) _ _).setNew (Nat.le_refl _) _ _).setNew (Nat.le_refl _) _ _).drew.drew, fun h => by cases h⟩

set_option maxHeartbeats 1000000 in
theorem hdr_bad2 (p : Nat) (S : ByteArray) (a : Nat) (v : Value) (w : World) (h : Rr w p S a v) (ha : a < S.size) (x m l : Int) (hx : (dataI S).getD a 0 = x) (hm : x / 32 = m) (hl : x % 32 = l) (h6 : m ≤ 5) (hbad : 27 < l) :
    Calls Tryd.prog 67 #[.pointer (some ⟨p, 0, none⟩)] w (HdP p S v (0, 0, 2, a) w) := by
  have hp := h.lt
  have hix := fun W => idx_str (S := S) ha hx W
  have H := Lib.hid h
  clear h
  obtain ⟨q0, q1⟩ := byte_rng hx
  have han := and31 x q0 q1
  rw [hl] at han
  have m0 : 0 ≤ m ∧ m ≤ 7 := by omega
  have l0 : 0 ≤ l ∧ l ≤ 31 := by omega
  have y1 : (x == 244) = false := by simp; omega
  have y2 : (x == 245) = false := by simp; omega
  have y3 : (x == 246) = false := by simp; omega
  clear hx hl
  have h5 : ¬ 5 < m := by omega
  go_enter Tryd.func67, Tryd.ntmps67
  go_wp2_with fail
  refine gen_world (fun W => Rr W p S a v ∧ Below w.heap.size w W ∧ Box W w.heap.size 0 0 ⟨#[]⟩) ⟨H.out.below ((Below.refl _ w).alloc (Nat.le_refl _) _) hp, (Below.refl _ w).alloc (Nat.le_refl _) _, Box.new w 0 0 ⟨#[]⟩⟩ ?_
  rintro W ⟨hR, hB, hX⟩
  have c0 := hR.c0
  have c1 := hR.c1
  have g1 := hR.fz 1
  obtain ⟨b0, b1, b2, f0, f1, f2⟩ := hX.cells
  have HB := Lib.hid (Rx.of_below (p := p) hB)
  have HX := Lib.hid hX
  have HR := Lib.hid hR
  have hne : w.heap.size ≠ p := by omega
  have hpn : p ≠ w.heap.size := by omega
  clear hR hX hB
  go_region
  go_wp2
  go_region
  go_wp2
  exact hd_end rfl rfl rfl (HX.out.set3 (k := 0) (n := 0) (d := ⟨#[]⟩)) ⟨rfl, (((HB.out.setNew (Nat.le_refl _) _ _).setNew (Nat.le_refl _) _ _).setNew (Nat.le_refl _) _ _).drew.drew, fun h => by cases h⟩

set_option maxHeartbeats 1000000 in
theorem hdr_low (p : Nat) (S : ByteArray) (a : Nat) (v : Value) (w : World) (h : Rr w p S a v) (ha : a < S.size) (hs : S.size ≤ 9000000000000000) (x m l : Int) (hx : (dataI S).getD a 0 = x) (hm : x / 32 = m) (hl : x % 32 = l) (h6 : m ≤ 5) (h24 : l < 24) :
    Calls Tryd.prog 67 #[.pointer (some ⟨p, 0, none⟩)] w (HdP p S v (1 + m, l, 0, a + 1) w) := by
  have hp := h.lt
  have hix := fun W => idx_str (S := S) ha hx W
  have H := Lib.hid h
  clear h
  obtain ⟨q0, q1⟩ := byte_rng hx
  have han := and31 x q0 q1
  rw [hl] at han
  have m0 : 0 ≤ m ∧ m ≤ 7 := by omega
  have l0 : 0 ≤ l ∧ l ≤ 31 := by omega
  have y1 : (x == 244) = false := by simp; omega
  have y2 : (x == 245) = false := by simp; omega
  have y3 : (x == 246) = false := by simp; omega
  clear hx hl
  have h5 : ¬ 5 < m := by omega
  have h27 : ¬ 27 < l := by omega
  obtain ⟨M, rfl⟩ := Int.eq_ofNat_of_zero_le m0.1
  go_enter Tryd.func67, Tryd.ntmps67
  go_wp2_with fail
  refine gen_world (fun W => Rr W p S a v ∧ Below w.heap.size w W ∧ Box W w.heap.size 0 0 ⟨#[]⟩) ⟨H.out.below ((Below.refl _ w).alloc (Nat.le_refl _) _) hp, (Below.refl _ w).alloc (Nat.le_refl _) _, Box.new w 0 0 ⟨#[]⟩⟩ ?_
  rintro W ⟨hR, hB, hX⟩
  have c0 := hR.c0
  have c1 := hR.c1
  have g1 := hR.fz 1
  obtain ⟨b0, b1, b2, f0, f1, f2⟩ := hX.cells
  have HB := Lib.hid (Rx.of_below (p := p) hB)
  have HX := Lib.hid hX
  have HR := Lib.hid hR
  have hne : w.heap.size ≠ p := by omega
  have hpn : p ≠ w.heap.size := by omega
  clear hR hX hB
  go_region
  go_wp2
  go_region
  go_wp2
  go_region
  go_wp2_with fail
  refine gen_world (fun W => Rr W p S a v ∧ Rx w.heap.size p w W ∧ Box W w.heap.size 0 0 ⟨#[]⟩) ⟨HR.out, HB.out.drew.drew.drew, HX.out⟩ ?_
  clear c0 c1 g1 b0 b1 b2 f0 f1 f2 HB HX HR
  rintro W ⟨hR, hB, hX⟩
  have c0 := hR.c0
  have c1 := hR.c1
  have g1 := hR.fz 1
  obtain ⟨b0, b1, b2, f0, f1, f2⟩ := hX.cells
  have hsw := hB.size
  have hBlt := hX.lt
  have hpW := hR.lt
  have HB := Lib.hid hB
  have HX := Lib.hid hX
  have HR := Lib.hid hR
  clear hR hX hB
  refine wp_loop_rounds 1 ?_
  rw [rounds_succ]
  have hF := hd_fin HR.out HX.out HB.out hne (Nat.le_refl _) (a + 1) ((a : Int) + 1) (by omega)
  have hK := fun z o1 => kinds_at M (by omega) p z o1 W
  have HF := Lib.hid hF
  clear hix hm han hF
  go_wp2
  exact hd_end rfl rfl rfl (HF.out _ _ _ _ _).1 ⟨rfl, (HF.out _ _ _ _ _).2.1, fun _ => (HF.out _ _ _ _ _).2.2⟩

end Go.Proofs.YtepinmeidjlmmaaDoor
