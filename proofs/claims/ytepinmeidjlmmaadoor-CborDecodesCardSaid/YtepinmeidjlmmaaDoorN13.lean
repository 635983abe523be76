/- Joined: U3, U4, U5, U6, U7, V1. -/
import Derived.Test.YtepinmeidjlmmaaDoorN12
import Derived.Test.YtepinmeidjlmmaaDoorN8
import Derived.Laws.AppendOwnNone
/- The bytes of a tree. -/
namespace Go.Proofs.YtepinmeidjlmmaaDoor
open Go.RowKit
set_option maxRecDepth 100000

/-- what every item of a tree is like, for its encoding -/
structure Whole (x : It) : Prop where
  good : Good x
  pos : 0 ≤ x.n
  u64 : x.n < 18446744073709551616
  small : x.d.size ≤ 100
theorem leaf_whole (n : Nat) : Whole (leafI n) := by
  refine ⟨(leaf_good n).1, (leaf_fine n).1, ?_, (leaf_fine n).2⟩
  unfold leafI shlW
  repeat' split
  all_goals dsimp only
  all_goals omega
theorem key_whole (k i : Nat) (hi : i ≤ 3) : Whole (keyI k i) := by
  refine ⟨(key_good k i).1, (key_fine k i).1, ?_, (key_fine k i).2⟩
  unfold keyI
  split
  · dsimp only; decide
  · dsimp only; omega
theorem kids_whole {T : Nat → List It × Nat} {ky : Nat → List It} (hT : ∀ a, ∀ x ∈ (T a).1, Whole x) (hk : ∀ i, i ≤ 3 → ∀ x ∈ ky i, Whole x) :
    ∀ c i a, i + c ≤ 3 → ∀ x ∈ (kidsE T ky c i a).1, Whole x
  | 0, i, a, hi, x, h => by simp [kidsE] at h
  | c + 1, i, a, hi, x, h => by
    simp only [kidsE, List.mem_append] at h
    rcases h with (h | h) | h
    · exact hk i (by omega) x h
    · exact hT a x h
    · exact kids_whole hT hk c (i + 1) _ (by omega) x h
theorem keysOf_whole (n : Nat) : ∀ i, i ≤ 3 → ∀ x ∈ keysOf n i, Whole x := by
  intro i hi x h
  unfold keysOf at h
  split at h
  · simp at h
  · simp at h; subst h; exact key_whole _ _ hi
theorem head_whole (n : Nat) : Whole (headI n) := by
  refine ⟨(head_good n).1, Int.natCast_nonneg _, ?_, none_small⟩
  show ((n / 8 % 4 : Nat) : Int) < _
  omega
theorem tree_whole (l : List Int) : ∀ f a, ∀ x ∈ (treeE l f a).1, Whole x
  | 0, a, x, h => by simp [treeE] at h; subst h; exact leaf_whole _
  | f + 1, a, x, h => by
    by_cases hn : nestB (atI l a) a = true
    · rw [treeE_nest hn] at h
      simp only [List.mem_cons] at h
      rcases h with h | h
      · subst h; exact head_whole _
      · exact kids_whole (tree_whole l f) (keysOf_whole _) _ _ _ (by omega) x h
    · have h' : nestB (atI l a) a = false := by simpa using hn
      rw [treeE_leaf h'] at h
      simp at h; subst h; exact leaf_whole _
theorem treeL_whole (l : List Int) : ∀ x ∈ treeL l, Whole x := tree_whole l 4 0

theorem encHead_rng {m n : Int} (hm0 : 0 ≤ m) (hm : m ≤ 5) (hn0 : 0 ≤ n) : ∀ z ∈ encHead m n, 0 ≤ z ∧ z ≤ 255 := by
  have hb : ∀ s, ∀ z ∈ beBytes n s s, 0 ≤ z ∧ z ≤ 255 := by
    intro s z hz
    unfold beBytes at hz
    obtain ⟨i, _, rfl⟩ := List.mem_map.1 hz
    unfold beByte
    omega
  unfold encHead
  intro z hz
  repeat' split at hz
  · simp at hz; omega
  all_goals
    rcases List.mem_cons.1 hz with rfl | hz
    · omega
    · exact hb _ z hz
theorem dataI_rng (d : ByteArray) : ∀ z ∈ dataI d, 0 ≤ z ∧ z ≤ 255 := by
  intro z hz
  unfold dataI at hz
  obtain ⟨b, _, rfl⟩ := List.mem_map.1 hz
  have := b.toNat_lt
  omega
theorem encItem_rng {x : It} (h : Whole x) : (∀ z ∈ encItem x.k x.n x.d, 0 ≤ z ∧ z ≤ 255) ∧ 1 ≤ (encItem x.k x.n x.d).length ∧ (encItem x.k x.n x.d).length ≤ 109 := by
  have h1 := h.good.k1
  have h8 := h.good.k8
  have hp := h.pos
  have hs := h.small
  have hpos : ∀ m n, 1 ≤ (encHead m n).length := by
    intro m n
    unfold encHead
    repeat' split
    all_goals simp
  rcases forms h1 h8 h.good.sh with ⟨hD, hn, he⟩ | ⟨_, hd, hrest⟩
  · rw [he]
    have h34 : x.k = 3 ∨ x.k = 4 := by unfold hasDataB at hD; simpa using hD
    refine ⟨fun z hz => ?_, ?_, ?_⟩
    · rcases List.mem_append.1 hz with hz | hz
      · exact encHead_rng (by omega) (by omega) (by omega) z hz
      · exact dataI_rng _ z hz
    · have := hpos (x.k - 1) x.d.size
      rw [List.length_append]; omega
    · have := encHead_len (x.k - 1) x.d.size
      rw [List.length_append, dataI_len]; omega
  · rcases hrest with ⟨h6, he⟩ | ⟨_, h7, he⟩ | ⟨_, _, he⟩
    · rw [he]
      have := encHead_len (x.k - 1) x.n
      exact ⟨encHead_rng (by omega) (by omega) hp, hpos _ _, by omega⟩
    · rw [he]
      refine ⟨fun z hz => ?_, by simp, by simp⟩
      simp at hz; omega
    · rw [he]
      refine ⟨fun z hz => ?_, by simp, by simp⟩
      simp at hz; omega
theorem encAll_rng : ∀ (l : List It), (∀ x ∈ l, Whole x) → (∀ z ∈ encAll l, 0 ≤ z ∧ z ≤ 255) ∧ l.length ≤ (encAll l).length ∧ (encAll l).length ≤ l.length * 109
  | [], _ => by simp [encAll]
  | x :: l, h => by
    obtain ⟨h1, h2, h3⟩ := encItem_rng (h x (by simp))
    obtain ⟨g1, g2, g3⟩ := encAll_rng l fun y hy => h y (by simp [hy])
    have e : encAll (x :: l) = encItem x.k x.n x.d ++ encAll l := rfl
    rw [e, List.length_append, List.length_cons]
    refine ⟨fun z hz => ?_, by omega, by omega⟩
    rcases List.mem_append.1 hz with hz | hz
    · exact h1 z hz
    · exact g1 z hz

/-- the bytes of a tree -/
def treeB (l : List Int) : List Int := encAll (treeL l)
theorem treeB_rng (l : List Int) : ∀ z ∈ treeB l, 0 ≤ z ∧ z ≤ 255 := (encAll_rng _ (treeL_whole l)).1
theorem treeB_len (l : List Int) : 1 ≤ (treeB l).length ∧ (treeB l).length ≤ 26269 := by
  obtain ⟨_, h2, h3⟩ := encAll_rng _ (treeL_whole l)
  have h4 := treeL_len l
  have h5 : 0 < (treeL l).length := List.length_pos_iff.2 (treeL_ne l)
  unfold treeB
  omega
theorem treeB_back (l : List Int) (r : List Int) {N : Nat} (h : (treeB l ++ r).length = N) : decE (treeB l ++ r) N = (0, treeL l, (treeB l).length) :=
  decE_full (fun x hx => ⟨(treeL_whole l x hx).pos, (treeL_whole l x hx).u64⟩) (tree_valid l) (by have := treeL_len l; omega) h
theorem treeB_cut (l : List Int) {i : Nat} (h : i < (treeB l).length) : (decE ((treeB l).take i) i).1 = 1 :=
  decE_cut (fun x hx => ⟨(treeL_whole l x hx).pos, (treeL_whole l x hx).u64⟩) (tree_valid l) (by have := treeL_len l; omega) h

theorem own_row_bys {w : World} {base n : Nat} {v : Value} {zs : List Int} (h : w.ownsRow base 5 1 v n (bv zs)) (hr : ∀ z ∈ zs, 0 ≤ z ∧ z ≤ 255) : ∃ A cap, v = .slice A n cap ∧ Bys w A n zs ∧ n ≤ cap ∧ cap ≤ 9223372036854775807 := by
  obtain ⟨A, cap, hv, hb⟩ := own_bys h hr
  refine ⟨A, cap, hv, hb, ?_⟩
  rcases h.2 with ⟨hv', h0⟩ | ⟨g, cap', cur, hv', _, _, h1, h2, _⟩
  · rw [hv] at hv'; cases hv'; omega
  · rw [hv] at hv'; cases hv'; unfold maxLen at h2; omega
theorem tree_items {w : World} {base g c : Nat} {l : List Int} (h : w.ownsRow base 58 3 (.slice (some ⟨g, 0, none⟩) (treeL l).length c) (treeL l).length (itCells (treeL l))) : ItemsAt w w.heap.size (.slice (some ⟨g, 0, none⟩) (treeL l).length c) (treeL l) :=
  itemsAt_own h (fun x hx => ⟨(treeL_fine l x hx).1, by have := (treeL_fine l x hx).2; unfold maxLen; omega⟩) (by have := treeL_len l; omega)
end Go.Proofs.YtepinmeidjlmmaaDoor

/- The law CborCuts, walked. -/
namespace Go.Proofs.YtepinmeidjlmmaaDoor
open Go.RowKit
set_option maxRecDepth 100000

set_option maxHeartbeats 2000000 in
theorem cuts_law (A : Option Addr) (n cap : Nat) (l : List Int) (w : World) (h : Ints w A n l) (hn : n ≤ 9223372036854775807) (ht : Tabs w) :
    Calls Tryd.prog 8 #[.slice A n cap] w fun e w' => e = .returned (.bool true) ∧ Below w.heap.size w w' := by
  have HC := Lib.hid (Tree_any A n cap l w h hn)
  have HT := Lib.hid ht
  obtain ⟨N, hN⟩ : ∃ N, (treeB l).length = N := ⟨_, rfl⟩
  have hb := treeB_len l
  rw [hN] at hb
  obtain ⟨hb1, hb2⟩ := hb
  have HCUT := Lib.hid (fun i (hi : i < N) => treeB_cut l (i := i) (by rw [hN]; exact hi))
  have HR := Lib.hid (treeB_rng l)
  have HN := Lib.hid hN
  clear h ht hN
  go_enter Tryd.func8, Tryd.ntmps8
  go_wp2_with (go_at_call 20; refine HC.out.mono ?_; rintro e w1 ⟨g, c, rfl, ho, hb⟩)
  have HI := Lib.hid (tree_items ho)
  have HB1 := Lib.hid hb
  clear ho hb
  refine (encode_good (treeL l) _ w1 HI.out (HT.out.later HB1.out) (tree_valid l)).mono ?_
  rintro e w2 ⟨v2, rfl, ho2, hb2'⟩
  rw [show (encAll (treeL l)).length = N from HN.out] at ho2
  obtain ⟨A2, c2, hv2, hby, hle, hcm⟩ := own_row_bys ho2 HR.out
  subst hv2
  have HBY := Lib.hid hby
  have HB2 := Lib.hid (HB1.out.trans (hb2'.mono HB1.out.size))
  have hs2 := HB2.out.size
  clear ho2 hb2' hby
  have hN0 : ((N : Int) == 0) = false := by rw [beq_eq_false_iff_ne]; omega
  go_wp2_with fail
  go_loopw [2, 5] (fun _ i wr => ∃ j : Nat, j ≤ N ∧ i = .int .i64 j ∧ Below w2.heap.size w2 wr) (fun _ i _ => N - (intOf i).toNat)
  case atStart => exact ⟨0, by omega, rfl, Below.refl _ _⟩
  case round =>
    obtain ⟨j, hj, rfl, hbw⟩ := hrel
    have HBW := Lib.hid hbw
    have hsz := hbw.size
    clear hbw
    by_cases hlt : j < N
    · have hlt2 : (j : Int) < (N : Int) := by omega
      have hlt3 : (j : Int) ≤ (c2 : Int) := by omega
      have hD := decode_any A2 j c2 ((treeB l).take j) wr ((HBY.out.below HBW.out).take j (by omega)) (by omega) hcm (by omega) (HT.out.later (HB2.out.trans (HBW.out.mono hs2)))
      have hcut := HCUT.out j hlt
      unfold DecP at hD
      generalize decE ((treeB l).take j) j = r at hD hcut
      obtain ⟨er, xs, u⟩ := r
      dsimp only at hD hcut
      subst hcut
      have HD := Lib.hid hD
      clear hD
      go_wp2_with (go_at_call 22; refine HD.out.mono ?_; rintro e w3 ⟨v3, rfl, _, hb3, _, _, _⟩)
      go_roundw
      case rel => exact ⟨j + 1, by omega, by go_num, HBW.out.trans (hb3.mono hsz)⟩
      case measure => simp [intOf]; omega
    · obtain rfl : N = j := by omega
      have hlt2 : ¬ (N : Int) < (N : Int) := by omega
      go_wp2_with (go_at_call 15; refine (awake_any _ (HT.out.later (HB2.out.trans (HBW.out.mono hs2)))).mono ?_; rintro e w4 ⟨rfl, hb4⟩)
      go_ret
      exact ⟨rfl, (HB2.out.trans (HBW.out.mono hs2)).trans (hb4.mono (Nat.le_trans hs2 hsz))⟩
end Go.Proofs.YtepinmeidjlmmaaDoor

/- A []int argument, opened. -/
namespace Go.Proofs.YtepinmeidjlmmaaDoor
open Go.ChangeShapes Go.WideShapes Go.ChangeAt Go.RowKit
set_option maxRecDepth 100000

theorem open_nums {H : Type} {enc : TypeId × Value → H} {W : World} {b0 base : Nat} {r : Reach} {v : Value} {d : DataW H} {ps : List MemPlace} (hval : Value.okWide Tryd.prog W r b0 30 v) (hd : DataW.Trod enc Tryd.prog W base (fun _ => true) true 30 v d ps) :
    ∃ (A : Option Addr) (n cap : Nat) (l : List Int), v = .slice A n cap ∧ n ≤ 9223372036854775807 ∧ Ints W A n l := by
  obtain ⟨a0, len, cap, rfl⟩ := okWide_slice Tryd.underlying30 hval
  obtain ⟨fuel, hf⟩ := hd
  rcases open_ints Tryd.underlying30 Tryd.underlying3 tryd_cells3 hf with ⟨hcs, hx⟩ | ⟨a, len', cap', zs, hcs, _, hl, hm, hz, hx, hcell, hwz⟩
  · simp [Value.cells] at hcs
    obtain ⟨rfl, rfl, rfl⟩ := hcs
    exact ⟨none, 0, 0, [], rfl, by omega, rfl, fun i hi => absurd hi (by omega)⟩
  · simp [Value.cells] at hcs
    obtain ⟨rfl, rfl, rfl⟩ := hcs
    simp only [if_true] at hz
    refine ⟨some a, len, cap, zs.take len, rfl, by unfold maxLen at hm; omega, by simp; omega, fun i hi => ⟨a, rfl, ?_⟩⟩
    rw [hcell i (by omega)]
    simp [List.getD, hi]
end Go.Proofs.YtepinmeidjlmmaaDoor

/- The law CborBack, walked. -/
namespace Go.Proofs.YtepinmeidjlmmaaDoor
open Go.RowKit
set_option maxRecDepth 100000

/-- append(b, u...) of bytes, b the call's own -/
theorem app_bytes {ops : Array Oper} {rest : List Oper} {o : Oper} {a : Act} {Q : Exit → Act → World → Prop} {w : World} (hgd : o.guard = none) (s x : Operand)
    (ho : o.op = .call { callee := .builtin .append, args := #[s, x], argTypes := #[25, 25] })
    (base : Nat) (v : Value) (n : Nat) (xs : List Int) (A : Option Addr) (m cap : Nat) (zs : List Int) (hown : w.ownsRow base 5 1 v n (bv xs)) (hs : a.eval s = v)
    (hB : Bys w A m zs) (hnone : A = none → m = 0 ∧ cap = 0) (hx : a.eval x = .slice A m cap) (hn : n + m ≤ 100000000000000) (hb : base ≤ w.heap.size)
    (h : ∀ v' w', w'.ownsRow base 5 1 v' (n + m) (bv (xs ++ zs)) → Below base w w' → wpList Tryd.prog ops Q rest (a.put o.dst v') w') :
    wpList Tryd.prog ops Q (o :: rest) a w := by
  obtain ⟨i0, hi, hz0, hz1, hz2⟩ := info_parts info5
  cases A with
  | none =>
    obtain ⟨rfl, rfl⟩ := hnone rfl
    have hz : zs = [] := List.eq_nil_of_length_eq_zero hB.len
    subst hz
    refine wpList_append_own_none hgd s x 25 ho base 5 i0 1 Tryd.underlying25 hi v n (bv xs) hs hown hx ?_
    exact h v w (by rw [List.append_nil]; exact hown) (Below.refl _ _)
  | some ad =>
    refine wpList_append_own _ hgd s x 25 ho base 5 i0 (.int .u8 0) 1 1 Tryd.underlying25 hi hz0 hz1 hz2 rfl (by decide) v n (bv xs) hs hown ad m cap (bv zs) hx (by rw [bv_len, hB.len, Nat.mul_one]) ?_ ?_ (by unfold maxLen; omega) (by omega) hb ?_
    · intro j u hj
      simp only [bv, List.getElem?_map, Option.map_eq_some_iff] at hj
      obtain ⟨z, hz, rfl⟩ := hj
      have hjm : j < m := by
        have := hB.len
        rcases Nat.lt_or_ge j zs.length with h1 | h1
        · omega
        · rw [List.getElem?_eq_none h1] at hz; cases hz
      obtain ⟨a2, e, hc⟩ := hB.at_ j hjm
      cases e
      rw [hc]
      simp [List.getD, hz]
    · intro u hu
      simp only [bv, List.mem_map] at hu
      obtain ⟨z, _, rfl⟩ := hu
      rfl
    · intro v' w' h1 h2 _
      rw [← bv_app] at h1
      exact h v' w' h1 (below_of_grown hown hb h2)

set_option maxHeartbeats 2000000 in
theorem back_dark (A R : Option Addr) (n cap M rc : Nat) (w : World) (hM : 300 < M) (ht : Tabs w) :
    Calls Tryd.prog 6 #[.slice A n cap, .slice R M rc] w fun e w' => e = .returned (.bool true) ∧ Below w.heap.size w w' := by
  have hM2 : (300 : Int) < (M : Int) := by omega
  have HT := Lib.hid ht
  clear ht
  go_enter Tryd.func6, Tryd.ntmps6
  go_wp2_with (go_at_call 15; refine (awake_any _ HT.out).mono ?_; rintro e w1 ⟨rfl, hb1⟩)
  go_ret
  exact ⟨rfl, hb1⟩

set_option maxHeartbeats 2000000 in
theorem back_law (A R : Option Addr) (n cap M rc : Nat) (l rs : List Int) (w : World) (h : Ints w A n l) (hn : n ≤ 9223372036854775807) (hr : Bys w R M rs) (hnone : R = none → M = 0 ∧ rc = 0) (hM : M ≤ 300) (ht : Tabs w) :
    Calls Tryd.prog 6 #[.slice A n cap, .slice R M rc] w fun e w' => e = .returned (.bool true) ∧ Below w.heap.size w w' := by
  have hM2 : ¬ (300 : Int) < (M : Int) := by omega
  have HC := Lib.hid (Tree_any A n cap l w h hn)
  have HT := Lib.hid ht
  have HBR := Lib.hid hr
  have HNO := Lib.hid hnone
  obtain ⟨N, hN⟩ : ∃ N, (treeB l).length = N := ⟨_, rfl⟩
  have hb := treeB_len l
  rw [hN] at hb
  obtain ⟨hb1, hb2⟩ := hb
  have HBACK := Lib.hid (treeB_back l rs (N := N + M) (by rw [List.length_append, hN, hr.len]))
  rw [hN] at HBACK
  have HR := Lib.hid (treeB_rng l)
  have HR2 := Lib.hid (show ∀ z ∈ treeB l ++ rs, 0 ≤ z ∧ z ≤ 255 from fun z hz => by
    rcases List.mem_append.1 hz with hz | hz
    · exact treeB_rng l z hz
    · exact hr.rng z hz)
  have HN := Lib.hid hN
  clear h ht hN hr hnone
  go_enter Tryd.func6, Tryd.ntmps6
  go_wp2_with (go_at_call 20; refine HC.out.mono ?_; rintro e w1 ⟨g, c, rfl, ho, hb⟩)
  have HI := Lib.hid (tree_items ho)
  have HB1 := Lib.hid hb
  clear ho hb
  refine (encode_good (treeL l) _ w1 HI.out (HT.out.later HB1.out) (tree_valid l)).mono ?_
  rintro e w2 ⟨v2, rfl, ho2, hb2'⟩
  rw [show (encAll (treeL l)).length = N from HN.out] at ho2
  obtain ⟨A2, c2, hv2, hby, hle, hcm⟩ := own_row_bys ho2 HR.out
  subst hv2
  have HBY := Lib.hid hby
  have HB12 := Lib.hid hb2'
  have HB2 := Lib.hid (HB1.out.trans (hb2'.mono HB1.out.size))
  have hs2 := HB2.out.size
  clear ho2 hb2' hby
  have hA2 : A2 = none → N = 0 ∧ c2 = 0 := by
    intro e
    obtain ⟨a, e2, _⟩ := HBY.out.at_ 0 (by omega)
    rw [e] at e2; cases e2
  have HA2 := Lib.hid hA2
  clear hA2
  go_wp2_with (first
    | (at_builtin; (refine app_bytes rfl _ _ rfl w2.heap.size _ 0 [] A2 N c2 (treeB l) (World.ownsRow_nil _ _ _ _) rfl HBY.out HA2.out rfl (by omega) (Nat.le_refl _) ?_); intro v3 w3 ho3 hb3; have HO3 := Lib.hid ho3; have HB3 := Lib.hid hb3; have hs3 := hb3.size; clear ho3 hb3)
    | (at_builtin; (refine app_bytes rfl _ _ rfl w2.heap.size _ (0 + N) ([] ++ treeB l) R M rc rs HO3.out rfl (HBR.out.below (HB2.out.trans (HB3.out.mono hs2))) HNO.out rfl (by omega) hs3 ?_); intro v4 w4 ho4 hb4)
    | fail)
  rw [Nat.zero_add, List.nil_append] at ho4
  obtain ⟨A4, c4, hv4, hby4, hle4, hcm4⟩ := own_row_bys ho4 HR2.out
  subst hv4
  have HB24 := Lib.hid (HB3.out.trans hb4)
  have HB4 := Lib.hid (HB2.out.trans (HB24.out.mono hs2))
  have hs4 := HB24.out.size
  have hD := decode_any A4 (N + M) c4 (treeB l ++ rs) w4 hby4 hle4 hcm4 (by omega) (HT.out.later HB4.out)
  unfold DecP at hD
  rw [HBACK.out] at hD
  dsimp only at hD
  clear ho4 hb4 hby4
  refine hD.mono ?_
  rintro e w5 ⟨v5, rfl, ho5, hb5, _, _, _⟩
  have hI5 := items_own ho5 (fun x hx => ⟨(treeL_fine l x hx).1, Nat.le_trans (treeL_fine l x hx).2 (by decide)⟩) (Nat.le_trans (treeL_len l) (by decide))
  have HI5 := Lib.hid hI5
  have HB15 := Lib.hid ((HB12.out.trans (HB24.out.mono HB12.out.size)).trans (hb5.mono (Nat.le_trans HB12.out.size hs4)))
  have HI1 := Lib.hid (HI.out.below HB15.out)
  have HB5 := Lib.hid (HB1.out.trans (HB15.out.mono HB1.out.size))
  have HBK := Lib.hid (fun k : Nat => (HB5.out.trans ⟨rfl, rfl, rfl, Nat.le_refl _, fun _ _ => rfl⟩ : Below w.heap.size w (w5.drewN k)))
  clear hD ho5 hb5 hI5
  go_wp2_with (first
    | (go_at_call 24; refine (same_any _ _ _ _ (treeL l) _ HI1.out HI5.out).mono ?_; rintro e w6 ⟨rfl, k, rfl⟩)
    | (go_at_call 15; refine (awake_any _ (HT.out.later (HBK.out k))).mono ?_; rintro e w7 ⟨rfl, hb7⟩)
    | fail)
  go_ret
  exact ⟨rfl, (HBK.out k).trans (hb7.mono HB5.out.size)⟩
end Go.Proofs.YtepinmeidjlmmaaDoor

/- A []byte argument, opened: nil or a row. -/
namespace Go.Proofs.YtepinmeidjlmmaaDoor
open Go.ChangeShapes Go.WideShapes Go.ChangeAt Go.RowKit
set_option maxRecDepth 100000

theorem open_row {H : Type} {enc : TypeId × Value → H} {W : World} {b0 base : Nat} {r : Reach} {v : Value} {d : DataW H} {ps : List MemPlace} (hval : Value.okWide Tryd.prog W r b0 25 v) (hd : DataW.Trod enc Tryd.prog W base (fun _ => true) true 25 v d ps) :
    ∃ (A : Option Addr) (n cap : Nat) (zs : List Int), v = .slice A n cap ∧ Bys W A n zs ∧ (A = none → n = 0 ∧ cap = 0) ∧ (n ≤ cap ∨ A = none) := by
  obtain ⟨a, len, cap, zs, hv, hl, hr, _, _, hrow⟩ := open_bytes hval hd
  rcases hrow with ⟨rfl, rfl, rfl⟩ | ⟨b, rfl, hle, hc⟩
  · exact ⟨none, 0, 0, zs, hv, ⟨hl, hr, fun i hi => absurd hi (by omega)⟩, fun _ => ⟨rfl, rfl⟩, .inr rfl⟩
  · exact ⟨some b, len, cap, zs, hv, ⟨hl, hr, fun i hi => ⟨b, rfl, hc i hi⟩⟩, (fun h => by cases h), .inl hle⟩
theorem back_any (A R : Option Addr) (n cap M rc : Nat) (l rs : List Int) (w : World) (h : Ints w A n l) (hn : n ≤ 9223372036854775807) (hr : Bys w R M rs) (hnone : R = none → M = 0 ∧ rc = 0) (ht : Tabs w) :
    Calls Tryd.prog 6 #[.slice A n cap, .slice R M rc] w fun e w' => e = .returned (.bool true) ∧ Below w.heap.size w w' := by
  by_cases hM : 300 < M
  · exact back_dark A R n cap M rc w hM ht
  · exact back_law A R n cap M rc l rs w h hn hr hnone (by omega) ht
end Go.Proofs.YtepinmeidjlmmaaDoor

/- A list that was changed in one place: the rows of items. -/
namespace Go.Proofs.YtepinmeidjlmmaaDoor
open Go.RowKit
set_option maxRecDepth 100000

theorem itCells_set_k : ∀ (l : List It) (i : Nat) (h : i < l.length) (k : Int), itCells (l.set i { l[i] with k := k }) = (itCells l).set (i * 3) (.int .i64 k)
  | x :: r, 0, _, k => rfl
  | x :: r, i + 1, h, k => by
    have ih := itCells_set_k r i (by simpa using h) k
    have e : (i + 1) * 3 = i * 3 + 1 + 1 + 1 := by omega
    rw [e]
    simp only [List.set_cons_succ, itCells, List.getElem_cons_succ, ih]
theorem itCells_set_n : ∀ (l : List It) (i : Nat) (h : i < l.length) (n : Int), itCells (l.set i { l[i] with n := n }) = (itCells l).set (i * 3 + 1) (.int .u64 n)
  | x :: r, 0, _, n => rfl
  | x :: r, i + 1, h, n => by
    have ih := itCells_set_n r i (by simpa using h) n
    have e : (i + 1) * 3 + 1 = i * 3 + 1 + 1 + 1 + 1 := by omega
    rw [e]
    simp only [List.set_cons_succ, itCells, List.getElem_cons_succ, ih]
theorem itCells_set_d : ∀ (l : List It) (i : Nat) (h : i < l.length) (d : ByteArray), itCells (l.set i { l[i] with d := d }) = (itCells l).set (i * 3 + 2) (.string d)
  | x :: r, 0, _, d => rfl
  | x :: r, i + 1, h, d => by
    have ih := itCells_set_d r i (by simpa using h) d
    have e : (i + 1) * 3 + 2 = i * 3 + 2 + 1 + 1 + 1 := by omega
    rw [e]
    simp only [List.set_cons_succ, itCells, List.getElem_cons_succ, ih]
theorem itCells_set : ∀ (l : List It) (i : Nat) (y : It), i < l.length → itCells (l.set i y) = (((itCells l).set (i * 3) (.int .i64 y.k)).set (i * 3 + 1) (.int .u64 y.n)).set (i * 3 + 2) (.string y.d)
  | x :: r, 0, y, _ => rfl
  | x :: r, i + 1, y, h => by
    have ih := itCells_set r i y (by simpa using h)
    have e0 : (i + 1) * 3 = i * 3 + 1 + 1 + 1 := by omega
    have e1 : (i + 1) * 3 + 1 = i * 3 + 1 + 1 + 1 + 1 := by omega
    have e2 : (i + 1) * 3 + 2 = i * 3 + 2 + 1 + 1 + 1 := by omega
    rw [e2, e1, e0]
    simp only [List.set_cons_succ, itCells, ih]
/-- what a list that was changed still is -/
def Tame (x : It) : Prop := 0 ≤ x.n ∧ x.n < 18446744073709551616 ∧ x.d.size ≤ 1100
theorem tame_set {l : List It} {i : Nat} {y : It} (h : ∀ x ∈ l, Tame x) (hy : Tame y) : ∀ x ∈ l.set i y, Tame x := by
  intro x hx
  rcases List.mem_or_eq_of_mem_set hx with hx | rfl
  · exact h x hx
  · exact hy
def SpoilP (w : World) (e : Ending) (w' : World) : Prop := ∃ (ys : List It) (A : Option Addr) (c : Nat), e = .returned (.slice A ys.length c) ∧ ItemsAt w' w'.heap.size (.slice A ys.length c) ys ∧ Below w.heap.size w w' ∧ (∀ y ∈ ys, Tame y) ∧ ys.length ≤ 300 ∧ ys.length ≤ c
theorem own_cap9 {w : World} {base e size g n c : Nat} {xs : List Value} (h : w.ownsRow base e size (.slice (some ⟨g, 0, none⟩) n c) n xs) : n ≤ c := by
  rcases h.2 with ⟨hv, _⟩ | ⟨g', cap, cur, hv, hb, hh, hle, _⟩
  · cases hv
  · cases hv; exact hle
theorem spoil_end {w w' : World} {g c : Nat} {ys : List It} (h : w'.ownsRow w.heap.size 58 3 (.slice (some ⟨g, 0, none⟩) ys.length c) ys.length (itCells ys)) (hb : Below w.heap.size w w') (ht : ∀ y ∈ ys, Tame y) (hl : ys.length ≤ 300) : SpoilP w (.returned (.slice (some ⟨g, 0, none⟩) ys.length c)) w' :=
  ⟨ys, _, c, rfl, itemsAt_own h (fun x hx => ⟨(ht x hx).1, by have := (ht x hx).2.2; unfold maxLen; omega⟩) (by omega), hb, ht, hl, own_cap9 h⟩

theorem ItemsAt.take {w : World} {B g c i : Nat} {l : List It} (h : ItemsAt w B (.slice (some ⟨g, 0, none⟩) l.length c) l) (hi : i ≤ l.length) : ItemsAt w B (.slice (some ⟨g, 0, none⟩) i c) (l.take i) := by
  have e9 : (l.take i).length = i := by simp; omega
  refine ⟨?_, fun x hx => h.ok x (List.mem_of_mem_take hx), by rw [e9]; exact Nat.le_trans hi h.len⟩
  rcases h.form with ⟨h0, _⟩ | ⟨b, off, cap', hv, hlt, hc⟩
  · cases h0
  · cases hv
    exact .inr ⟨g, 0, c, by rw [e9], hlt, fun j hj => by
      have hj2 : j < l.length := by rw [e9] at hj; omega
      simpa using hc j hj2⟩
theorem spoil_end' {w w' : World} {g c n : Nat} {ys : List It} (hn : ys.length = n) (h : w'.ownsRow w.heap.size 58 3 (.slice (some ⟨g, 0, none⟩) n c) n (itCells ys)) (hb : Below w.heap.size w w') (ht : ∀ y ∈ ys, Tame y) (hl : n ≤ 300) : SpoilP w (.returned (.slice (some ⟨g, 0, none⟩) n c)) w' := by
  subst hn
  exact spoil_end h hb ht hl
theorem own_pos {w : World} {base n : Nat} {v : Value} {xs : List Value} (h : w.ownsRow base 58 3 v n xs) (h0 : 0 < n) : ∃ g cap, v = .slice (some ⟨g, 0, none⟩) n cap ∧ base ≤ g ∧ g < w.heap.size ∧ n ≤ cap ∧ ∀ j, w.frozen? ⟨g, j, none⟩ = false := by
  rcases h.2 with ⟨hv, hz⟩ | ⟨g, cap, cur, hv, hb, hh, hle, _⟩
  · omega
  · exact ⟨g, cap, hv, hb, lt_of_heap hh, hle, fun j => by simp [World.frozen?, hh]⟩

set_option maxHeartbeats 2000000 in
theorem spoil0 (b off cap m : Nat) (l : List It) (w : World) (hI : ItemsAt w w.heap.size (.slice (some ⟨b, off, none⟩) l.length cap) l) (ht : ∀ x ∈ l, Tame x) (hne : l ≠ []) (hl : l.length ≤ 250) (hc : m % 16 = 0) :
    Calls Tryd.prog 21 #[.slice (some ⟨b, off, none⟩) l.length cap, .int .i64 m] w (SpoilP w) := by
  obtain ⟨k, hk⟩ : ∃ k, m / 16 % 65536 = k := ⟨_, rfl⟩
  have e2 : (m : Int) / 16 % 65536 = k := by omega
  obtain ⟨n, hn⟩ : ∃ n, l.length = n := ⟨_, rfl⟩
  have hn0 : 0 < n := by rw [← hn]; exact List.length_pos_iff.2 hne
  obtain ⟨i, hi⟩ : ∃ i, k % n = i := ⟨_, rfl⟩
  have hlt : i < n := by rw [← hi]; exact Nat.mod_lt _ hn0
  have e1 : (m : Int) % 16 = 0 := by omega
  have hcell := itCells_at l i (by omega)
  have HI := Lib.hid hI
  have HT := Lib.hid ht
  have HNE := Lib.hid hne
  rw [hn] at HI hl ⊢
  have and15 : bits .and .i64 m 15 = (m : Int) % 16 := bits_low 4 (by decide) m
  clear hI ht hne
  go_enter Tryd.func21, Tryd.ntmps21
  go_wp2_with (first
    | (at_builtin; (refine app_items3 rfl _ _ rfl w.heap.size _ 0 [] l w.heap.size b off cap (World.ownsRow_nil _ _ _ _) rfl (by rw [hn]; exact HI.out) (by rw [hn]; rfl) HNE.out (by omega) (by omega) (Nat.le_refl _) ?_); intro v1 w1 ho1 hb1 _; (rw [Nat.zero_add, List.nil_append, hn] at ho1); obtain ⟨g, c1, hv1, hg0, hg1, hgc, hfr⟩ := own_pos ho1 hn0; subst hv1; have q0 := (ho1.cellAt (i * 3) (by omega)).trans hcell.1; have f0 := hfr (i * 3); have HO1 := Lib.hid ho1; have HB1 := Lib.hid hb1; clear ho1 hb1 hfr)
    | fail)
  go_ret
  subst hn
  have ho := (World.ownsRow.stored HO1.out (i * 3) (.int .i64 ((k : Int) / 8 % 11 - 1))).1
  rw [← itCells_set_k l i hlt] at ho
  have hy : Tame { l[i] with k := (k : Int) / 8 % 11 - 1 } := HT.out l[i] (List.getElem_mem hlt)
  exact spoil_end' (by simp) ho (HB1.out.setCell hg0 _) (tame_set HT.out hy) (by omega)

set_option maxHeartbeats 2000000 in
theorem spoil3 (b off cap m : Nat) (l : List It) (w : World) (hI : ItemsAt w w.heap.size (.slice (some ⟨b, off, none⟩) l.length cap) l) (ht : ∀ x ∈ l, Tame x) (hne : l ≠ []) (hl : l.length ≤ 250) (hc : m % 16 = 3) :
    Calls Tryd.prog 21 #[.slice (some ⟨b, off, none⟩) l.length cap, .int .i64 m] w (SpoilP w) := by
  obtain ⟨k, hk⟩ : ∃ k, m / 16 % 65536 = k := ⟨_, rfl⟩
  have e2 : (m : Int) / 16 % 65536 = k := by omega
  obtain ⟨n, hn⟩ : ∃ n, l.length = n := ⟨_, rfl⟩
  have hn0 : 0 < n := by rw [← hn]; exact List.length_pos_iff.2 hne
  obtain ⟨i, hi⟩ : ∃ i, k % n = i := ⟨_, rfl⟩
  have hlt : i < n := by rw [← hi]; exact Nat.mod_lt _ hn0
  have e1 : (m : Int) % 16 = 3 := by omega
  have hcell := itCells_at l i (by omega)
  have HI := Lib.hid hI
  have HT := Lib.hid ht
  have HNE := Lib.hid hne
  rw [hn] at HI hl ⊢
  have and15 : bits .and .i64 m 15 = (m : Int) % 16 := bits_low 4 (by decide) m
  clear hI ht hne
  go_enter Tryd.func21, Tryd.ntmps21
  go_wp2_with (first
    | (at_builtin; (refine app_items3 rfl _ _ rfl w.heap.size _ 0 [] l w.heap.size b off cap (World.ownsRow_nil _ _ _ _) rfl (by rw [hn]; exact HI.out) (by rw [hn]; rfl) HNE.out (by omega) (by omega) (Nat.le_refl _) ?_); intro v1 w1 ho1 hb1 _; (rw [Nat.zero_add, List.nil_append, hn] at ho1); obtain ⟨g, c1, hv1, hg0, hg1, hgc, hfr⟩ := own_pos ho1 hn0; subst hv1; have HO1 := Lib.hid ho1; have HB1 := Lib.hid hb1; clear ho1 hb1 hfr)
    | fail)
  go_ret
  rw [hi]
  subst hn
  have hI1 := itemsAt_own HO1.out (fun x hx => ⟨(HT.out x hx).1, by have := (HT.out x hx).2.2; unfold maxLen; omega⟩) (by omega)
  have e9 : (l.take i).length = i := by simp; omega
  exact ⟨l.take i, some ⟨g, 0, none⟩, c1, by rw [e9]; rfl, by rw [e9]; exact hI1.take (by omega), HB1.out, fun y hy => HT.out y (List.mem_of_mem_take hy), by omega, by omega⟩

set_option maxHeartbeats 2000000 in
theorem spoil4 (b off cap m : Nat) (l : List It) (w : World) (hI : ItemsAt w w.heap.size (.slice (some ⟨b, off, none⟩) l.length cap) l) (ht : ∀ x ∈ l, Tame x) (hne : l ≠ []) (hl : l.length ≤ 250) (hc : m % 16 = 4) :
    Calls Tryd.prog 21 #[.slice (some ⟨b, off, none⟩) l.length cap, .int .i64 m] w (SpoilP w) := by
  obtain ⟨k, hk⟩ : ∃ k, m / 16 % 65536 = k := ⟨_, rfl⟩
  have e2 : (m : Int) / 16 % 65536 = k := by omega
  obtain ⟨n, hn⟩ : ∃ n, l.length = n := ⟨_, rfl⟩
  have hn0 : 0 < n := by rw [← hn]; exact List.length_pos_iff.2 hne
  obtain ⟨i, hi⟩ : ∃ i, k % n = i := ⟨_, rfl⟩
  have hlt : i < n := by rw [← hi]; exact Nat.mod_lt _ hn0
  have e1 : (m : Int) % 16 = 4 := by omega
  have hcell := itCells_at l i (by omega)
  have HI := Lib.hid hI
  have HT := Lib.hid ht
  have HNE := Lib.hid hne
  rw [hn] at HI hl ⊢
  have and15 : bits .and .i64 m 15 = (m : Int) % 16 := bits_low 4 (by decide) m
  clear hI ht hne
  go_enter Tryd.func21, Tryd.ntmps21
  go_wp2_with (first
    | (at_builtin; (refine app_items3 rfl _ _ rfl w.heap.size _ 0 [] l w.heap.size b off cap (World.ownsRow_nil _ _ _ _) rfl (by rw [hn]; exact HI.out) (by rw [hn]; rfl) HNE.out (by omega) (by omega) (Nat.le_refl _) ?_); intro v1 w1 ho1 hb1 _; (rw [Nat.zero_add, List.nil_append, hn] at ho1); obtain ⟨g, c1, hv1, hg0, hg1, hgc, hfr⟩ := own_pos ho1 hn0; subst hv1; have HO1 := Lib.hid ho1; have HB1 := Lib.hid hb1; clear ho1 hb1 hfr)
    | (at_builtin; (refine app_items3 rfl _ _ rfl w.heap.size _ n l [⟨8, 0, ⟨#[]⟩⟩] (w1.heap.size + 1) w1.heap.size 0 1 (HO1.out.alloc _) rfl (lit_items w1 8 0 (by omega)) rfl (by simp) (by omega) (by simp) (by have := HB1.out.size; simp; omega) ?_); intro v2 w2 ho2 hb2 _)
    | fail)
  go_ret
  obtain ⟨g2, c2, hv2, _⟩ := own_pos ho2 (by simp)
  subst hv2
  have hb3 := (HB1.out.alloc (o := .cells #[.int .i64 8, .int .u64 0, .string ⟨#[]⟩] 58) HB1.out.size).trans hb2
  refine spoil_end' (by rw [List.length_append, hn]) ho2 hb3 (fun y hy => ?_) (by simp; omega)
  rcases List.mem_append.1 hy with hy | hy
  · exact HT.out y hy
  · simp at hy; subst hy; exact ⟨Int.le_refl _, by dsimp only; decide, Nat.le_trans none_small (by decide)⟩

set_option maxHeartbeats 2000000 in
theorem spoil6 (b off cap m : Nat) (l : List It) (w : World) (hI : ItemsAt w w.heap.size (.slice (some ⟨b, off, none⟩) l.length cap) l) (ht : ∀ x ∈ l, Tame x) (hne : l ≠ []) (hl : l.length ≤ 250) (hc : 6 ≤ m % 16) :
    Calls Tryd.prog 21 #[.slice (some ⟨b, off, none⟩) l.length cap, .int .i64 m] w (SpoilP w) := by
  obtain ⟨k, hk⟩ : ∃ k, m / 16 % 65536 = k := ⟨_, rfl⟩
  have e2 : (m : Int) / 16 % 65536 = k := by omega
  obtain ⟨n, hn⟩ : ∃ n, l.length = n := ⟨_, rfl⟩
  have hn0 : 0 < n := by rw [← hn]; exact List.length_pos_iff.2 hne
  obtain ⟨i, hi⟩ : ∃ i, k % n = i := ⟨_, rfl⟩
  have hlt : i < n := by rw [← hi]; exact Nat.mod_lt _ hn0
  obtain ⟨c, hcc⟩ : ∃ c, m % 16 = c := ⟨_, rfl⟩
  have e1 : (m : Int) % 16 = c := by omega
  have d0 : ¬ (c : Int) = 0 := by omega
  have d1 : ¬ (c : Int) = 1 := by omega
  have d2 : ¬ (c : Int) = 2 := by omega
  have d3 : ¬ (c : Int) = 3 := by omega
  have d4 : ¬ (c : Int) = 4 := by omega
  have d5 : ¬ (c : Int) = 5 := by omega
  have hcell := itCells_at l i (by omega)
  have HI := Lib.hid hI
  have HT := Lib.hid ht
  have HNE := Lib.hid hne
  rw [hn] at HI hl ⊢
  have and15 : bits .and .i64 m 15 = (m : Int) % 16 := bits_low 4 (by decide) m
  clear hI ht hne
  go_enter Tryd.func21, Tryd.ntmps21
  go_wp2_with (first
    | (at_builtin; (refine app_items3 rfl _ _ rfl w.heap.size _ 0 [] l w.heap.size b off cap (World.ownsRow_nil _ _ _ _) rfl (by rw [hn]; exact HI.out) (by rw [hn]; rfl) HNE.out (by omega) (by omega) (Nat.le_refl _) ?_); intro v1 w1 ho1 hb1 _; (rw [Nat.zero_add, List.nil_append, hn] at ho1); obtain ⟨g, c1, hv1, hg0, hg1, hgc, hfr⟩ := own_pos ho1 hn0; subst hv1; have HO1 := Lib.hid ho1; have HB1 := Lib.hid hb1; clear ho1 hb1 hfr)
    | fail)
  go_ret
  exact spoil_end' hn HO1.out HB1.out HT.out (by omega)

set_option maxHeartbeats 2000000 in
theorem spoil1_0 (b off cap m : Nat) (l : List It) (w : World) (hI : ItemsAt w w.heap.size (.slice (some ⟨b, off, none⟩) l.length cap) l) (ht : ∀ x ∈ l, Tame x) (hne : l ≠ []) (hl : l.length ≤ 250) (hc : m % 16 = 1) (hj : m / 16 % 65536 / 8 % 6 = 0) :
    Calls Tryd.prog 21 #[.slice (some ⟨b, off, none⟩) l.length cap, .int .i64 m] w (SpoilP w) := by
  obtain ⟨k, hk⟩ : ∃ k, m / 16 % 65536 = k := ⟨_, rfl⟩
  have e2 : (m : Int) / 16 % 65536 = k := by omega
  obtain ⟨n, hn⟩ : ∃ n, l.length = n := ⟨_, rfl⟩
  have hn0 : 0 < n := by rw [← hn]; exact List.length_pos_iff.2 hne
  obtain ⟨i, hi⟩ : ∃ i, k % n = i := ⟨_, rfl⟩
  have hlt : i < n := by rw [← hi]; exact Nat.mod_lt _ hn0
  have e1 : (m : Int) % 16 = 1 := by omega
  have e5 : (k : Int) / 8 % 6 = 0 := by omega
  have hcell := itCells_at l i (by omega)
  have HI := Lib.hid hI
  have HT := Lib.hid ht
  have HNE := Lib.hid hne
  rw [hn] at HI hl ⊢
  have and15 : bits .and .i64 m 15 = (m : Int) % 16 := bits_low 4 (by decide) m
  clear hI ht hne
  go_enter Tryd.func21, Tryd.ntmps21
  go_wp2_with (first
    | (at_builtin; (refine app_items3 rfl _ _ rfl w.heap.size _ 0 [] l w.heap.size b off cap (World.ownsRow_nil _ _ _ _) rfl (by rw [hn]; exact HI.out) (by rw [hn]; rfl) HNE.out (by omega) (by omega) (Nat.le_refl _) ?_); intro v1 w1 ho1 hb1 _; (rw [Nat.zero_add, List.nil_append, hn] at ho1); obtain ⟨g, c1, hv1, hg0, hg1, hgc, hfr⟩ := own_pos ho1 hn0; subst hv1; have q0 := (ho1.cellAt (i * 3 + 1) (by omega)).trans hcell.2.1; have f0 := hfr (i * 3 + 1); have HO1 := Lib.hid ho1; have HB1 := Lib.hid hb1; clear ho1 hb1 hfr)
    | fail)
  go_ret
  subst hn
  have ho := (World.ownsRow.stored HO1.out (i * 3 + 1) (.int .u64 0)).1
  rw [← itCells_set_n l i hlt] at ho
  have hy : Tame { l[i] with n := 0 } := ⟨by dsimp only; decide, by dsimp only; decide, (HT.out l[i] (List.getElem_mem hlt)).2.2⟩
  have hb := HB1.out.setCell (p := ⟨g, i * 3 + 1, none⟩) hg0 (.int .u64 0)
  exact spoil_end' (by simp) (ho.alloc _) (hb.alloc hb.size _) (tame_set HT.out hy) (by omega)

set_option maxHeartbeats 2000000 in
theorem spoil1_1 (b off cap m : Nat) (l : List It) (w : World) (hI : ItemsAt w w.heap.size (.slice (some ⟨b, off, none⟩) l.length cap) l) (ht : ∀ x ∈ l, Tame x) (hne : l ≠ []) (hl : l.length ≤ 250) (hc : m % 16 = 1) (hj : m / 16 % 65536 / 8 % 6 = 1) :
    Calls Tryd.prog 21 #[.slice (some ⟨b, off, none⟩) l.length cap, .int .i64 m] w (SpoilP w) := by
  obtain ⟨k, hk⟩ : ∃ k, m / 16 % 65536 = k := ⟨_, rfl⟩
  have e2 : (m : Int) / 16 % 65536 = k := by omega
  obtain ⟨n, hn⟩ : ∃ n, l.length = n := ⟨_, rfl⟩
  have hn0 : 0 < n := by rw [← hn]; exact List.length_pos_iff.2 hne
  obtain ⟨i, hi⟩ : ∃ i, k % n = i := ⟨_, rfl⟩
  have hlt : i < n := by rw [← hi]; exact Nat.mod_lt _ hn0
  have e1 : (m : Int) % 16 = 1 := by omega
  have e5 : (k : Int) / 8 % 6 = 1 := by omega
  have hcell := itCells_at l i (by omega)
  have HI := Lib.hid hI
  have HT := Lib.hid ht
  have HNE := Lib.hid hne
  rw [hn] at HI hl ⊢
  have and15 : bits .and .i64 m 15 = (m : Int) % 16 := bits_low 4 (by decide) m
  clear hI ht hne
  go_enter Tryd.func21, Tryd.ntmps21
  go_wp2_with (first
    | (at_builtin; (refine app_items3 rfl _ _ rfl w.heap.size _ 0 [] l w.heap.size b off cap (World.ownsRow_nil _ _ _ _) rfl (by rw [hn]; exact HI.out) (by rw [hn]; rfl) HNE.out (by omega) (by omega) (Nat.le_refl _) ?_); intro v1 w1 ho1 hb1 _; (rw [Nat.zero_add, List.nil_append, hn] at ho1); obtain ⟨g, c1, hv1, hg0, hg1, hgc, hfr⟩ := own_pos ho1 hn0; subst hv1; have q0 := (ho1.cellAt (i * 3 + 1) (by omega)).trans hcell.2.1; have f0 := hfr (i * 3 + 1); have HO1 := Lib.hid ho1; have HB1 := Lib.hid hb1; clear ho1 hb1 hfr)
    | fail)
  go_ret
  subst hn
  have ho := (World.ownsRow.stored HO1.out (i * 3 + 1) (.int .u64 1)).1
  rw [← itCells_set_n l i hlt] at ho
  have hy : Tame { l[i] with n := 1 } := ⟨by dsimp only; decide, by dsimp only; decide, (HT.out l[i] (List.getElem_mem hlt)).2.2⟩
  have hb := HB1.out.setCell (p := ⟨g, i * 3 + 1, none⟩) hg0 (.int .u64 1)
  exact spoil_end' (by simp) (ho.alloc _) (hb.alloc hb.size _) (tame_set HT.out hy) (by omega)

set_option maxHeartbeats 2000000 in
theorem spoil1_2 (b off cap m : Nat) (l : List It) (w : World) (hI : ItemsAt w w.heap.size (.slice (some ⟨b, off, none⟩) l.length cap) l) (ht : ∀ x ∈ l, Tame x) (hne : l ≠ []) (hl : l.length ≤ 250) (hc : m % 16 = 1) (hj : m / 16 % 65536 / 8 % 6 = 2) :
    Calls Tryd.prog 21 #[.slice (some ⟨b, off, none⟩) l.length cap, .int .i64 m] w (SpoilP w) := by
  obtain ⟨k, hk⟩ : ∃ k, m / 16 % 65536 = k := ⟨_, rfl⟩
  have e2 : (m : Int) / 16 % 65536 = k := by omega
  obtain ⟨n, hn⟩ : ∃ n, l.length = n := ⟨_, rfl⟩
  have hn0 : 0 < n := by rw [← hn]; exact List.length_pos_iff.2 hne
  obtain ⟨i, hi⟩ : ∃ i, k % n = i := ⟨_, rfl⟩
  have hlt : i < n := by rw [← hi]; exact Nat.mod_lt _ hn0
  have e1 : (m : Int) % 16 = 1 := by omega
  have e5 : (k : Int) / 8 % 6 = 2 := by omega
  have hcell := itCells_at l i (by omega)
  have HI := Lib.hid hI
  have HT := Lib.hid ht
  have HNE := Lib.hid hne
  rw [hn] at HI hl ⊢
  have and15 : bits .and .i64 m 15 = (m : Int) % 16 := bits_low 4 (by decide) m
  clear hI ht hne
  go_enter Tryd.func21, Tryd.ntmps21
  go_wp2_with (first
    | (at_builtin; (refine app_items3 rfl _ _ rfl w.heap.size _ 0 [] l w.heap.size b off cap (World.ownsRow_nil _ _ _ _) rfl (by rw [hn]; exact HI.out) (by rw [hn]; rfl) HNE.out (by omega) (by omega) (Nat.le_refl _) ?_); intro v1 w1 ho1 hb1 _; (rw [Nat.zero_add, List.nil_append, hn] at ho1); obtain ⟨g, c1, hv1, hg0, hg1, hgc, hfr⟩ := own_pos ho1 hn0; subst hv1; have q0 := (ho1.cellAt (i * 3 + 1) (by omega)).trans hcell.2.1; have f0 := hfr (i * 3 + 1); have HO1 := Lib.hid ho1; have HB1 := Lib.hid hb1; clear ho1 hb1 hfr)
    | fail)
  go_ret
  subst hn
  have ho := (World.ownsRow.stored HO1.out (i * 3 + 1) (.int .u64 2)).1
  rw [← itCells_set_n l i hlt] at ho
  have hy : Tame { l[i] with n := 2 } := ⟨by dsimp only; decide, by dsimp only; decide, (HT.out l[i] (List.getElem_mem hlt)).2.2⟩
  have hb := HB1.out.setCell (p := ⟨g, i * 3 + 1, none⟩) hg0 (.int .u64 2)
  exact spoil_end' (by simp) (ho.alloc _) (hb.alloc hb.size _) (tame_set HT.out hy) (by omega)

set_option maxHeartbeats 2000000 in
theorem spoil1_3 (b off cap m : Nat) (l : List It) (w : World) (hI : ItemsAt w w.heap.size (.slice (some ⟨b, off, none⟩) l.length cap) l) (ht : ∀ x ∈ l, Tame x) (hne : l ≠ []) (hl : l.length ≤ 250) (hc : m % 16 = 1) (hj : m / 16 % 65536 / 8 % 6 = 3) :
    Calls Tryd.prog 21 #[.slice (some ⟨b, off, none⟩) l.length cap, .int .i64 m] w (SpoilP w) := by
  obtain ⟨k, hk⟩ : ∃ k, m / 16 % 65536 = k := ⟨_, rfl⟩
  have e2 : (m : Int) / 16 % 65536 = k := by omega
  obtain ⟨n, hn⟩ : ∃ n, l.length = n := ⟨_, rfl⟩
  have hn0 : 0 < n := by rw [← hn]; exact List.length_pos_iff.2 hne
  obtain ⟨i, hi⟩ : ∃ i, k % n = i := ⟨_, rfl⟩
  have hlt : i < n := by rw [← hi]; exact Nat.mod_lt _ hn0
  have e1 : (m : Int) % 16 = 1 := by omega
  have e5 : (k : Int) / 8 % 6 = 3 := by omega
  have hcell := itCells_at l i (by omega)
  have HI := Lib.hid hI
  have HT := Lib.hid ht
  have HNE := Lib.hid hne
  rw [hn] at HI hl ⊢
  have and15 : bits .and .i64 m 15 = (m : Int) % 16 := bits_low 4 (by decide) m
  clear hI ht hne
  go_enter Tryd.func21, Tryd.ntmps21
  go_wp2_with (first
    | (at_builtin; (refine app_items3 rfl _ _ rfl w.heap.size _ 0 [] l w.heap.size b off cap (World.ownsRow_nil _ _ _ _) rfl (by rw [hn]; exact HI.out) (by rw [hn]; rfl) HNE.out (by omega) (by omega) (Nat.le_refl _) ?_); intro v1 w1 ho1 hb1 _; (rw [Nat.zero_add, List.nil_append, hn] at ho1); obtain ⟨g, c1, hv1, hg0, hg1, hgc, hfr⟩ := own_pos ho1 hn0; subst hv1; have q0 := (ho1.cellAt (i * 3 + 1) (by omega)).trans hcell.2.1; have f0 := hfr (i * 3 + 1); have HO1 := Lib.hid ho1; have HB1 := Lib.hid hb1; clear ho1 hb1 hfr)
    | fail)
  go_ret
  subst hn
  have ho := (World.ownsRow.stored HO1.out (i * 3 + 1) (.int .u64 23)).1
  rw [← itCells_set_n l i hlt] at ho
  have hy : Tame { l[i] with n := 23 } := ⟨by dsimp only; decide, by dsimp only; decide, (HT.out l[i] (List.getElem_mem hlt)).2.2⟩
  have hb := HB1.out.setCell (p := ⟨g, i * 3 + 1, none⟩) hg0 (.int .u64 23)
  exact spoil_end' (by simp) (ho.alloc _) (hb.alloc hb.size _) (tame_set HT.out hy) (by omega)

set_option maxHeartbeats 2000000 in
theorem spoil1_4 (b off cap m : Nat) (l : List It) (w : World) (hI : ItemsAt w w.heap.size (.slice (some ⟨b, off, none⟩) l.length cap) l) (ht : ∀ x ∈ l, Tame x) (hne : l ≠ []) (hl : l.length ≤ 250) (hc : m % 16 = 1) (hj : m / 16 % 65536 / 8 % 6 = 4) :
    Calls Tryd.prog 21 #[.slice (some ⟨b, off, none⟩) l.length cap, .int .i64 m] w (SpoilP w) := by
  obtain ⟨k, hk⟩ : ∃ k, m / 16 % 65536 = k := ⟨_, rfl⟩
  have e2 : (m : Int) / 16 % 65536 = k := by omega
  obtain ⟨n, hn⟩ : ∃ n, l.length = n := ⟨_, rfl⟩
  have hn0 : 0 < n := by rw [← hn]; exact List.length_pos_iff.2 hne
  obtain ⟨i, hi⟩ : ∃ i, k % n = i := ⟨_, rfl⟩
  have hlt : i < n := by rw [← hi]; exact Nat.mod_lt _ hn0
  have e1 : (m : Int) % 16 = 1 := by omega
  have e5 : (k : Int) / 8 % 6 = 4 := by omega
  have hcell := itCells_at l i (by omega)
  have HI := Lib.hid hI
  have HT := Lib.hid ht
  have HNE := Lib.hid hne
  rw [hn] at HI hl ⊢
  have and15 : bits .and .i64 m 15 = (m : Int) % 16 := bits_low 4 (by decide) m
  clear hI ht hne
  go_enter Tryd.func21, Tryd.ntmps21
  go_wp2_with (first
    | (at_builtin; (refine app_items3 rfl _ _ rfl w.heap.size _ 0 [] l w.heap.size b off cap (World.ownsRow_nil _ _ _ _) rfl (by rw [hn]; exact HI.out) (by rw [hn]; rfl) HNE.out (by omega) (by omega) (Nat.le_refl _) ?_); intro v1 w1 ho1 hb1 _; (rw [Nat.zero_add, List.nil_append, hn] at ho1); obtain ⟨g, c1, hv1, hg0, hg1, hgc, hfr⟩ := own_pos ho1 hn0; subst hv1; have q0 := (ho1.cellAt (i * 3 + 1) (by omega)).trans hcell.2.1; have f0 := hfr (i * 3 + 1); have HO1 := Lib.hid ho1; have HB1 := Lib.hid hb1; clear ho1 hb1 hfr)
    | fail)
  go_ret
  subst hn
  have ho := (World.ownsRow.stored HO1.out (i * 3 + 1) (.int .u64 513)).1
  rw [← itCells_set_n l i hlt] at ho
  have hy : Tame { l[i] with n := 513 } := ⟨by dsimp only; decide, by dsimp only; decide, (HT.out l[i] (List.getElem_mem hlt)).2.2⟩
  have hb := HB1.out.setCell (p := ⟨g, i * 3 + 1, none⟩) hg0 (.int .u64 513)
  exact spoil_end' (by simp) (ho.alloc _) (hb.alloc hb.size _) (tame_set HT.out hy) (by omega)

set_option maxHeartbeats 2000000 in
theorem spoil1_5 (b off cap m : Nat) (l : List It) (w : World) (hI : ItemsAt w w.heap.size (.slice (some ⟨b, off, none⟩) l.length cap) l) (ht : ∀ x ∈ l, Tame x) (hne : l ≠ []) (hl : l.length ≤ 250) (hc : m % 16 = 1) (hj : m / 16 % 65536 / 8 % 6 = 5) :
    Calls Tryd.prog 21 #[.slice (some ⟨b, off, none⟩) l.length cap, .int .i64 m] w (SpoilP w) := by
  obtain ⟨k, hk⟩ : ∃ k, m / 16 % 65536 = k := ⟨_, rfl⟩
  have e2 : (m : Int) / 16 % 65536 = k := by omega
  obtain ⟨n, hn⟩ : ∃ n, l.length = n := ⟨_, rfl⟩
  have hn0 : 0 < n := by rw [← hn]; exact List.length_pos_iff.2 hne
  obtain ⟨i, hi⟩ : ∃ i, k % n = i := ⟨_, rfl⟩
  have hlt : i < n := by rw [← hi]; exact Nat.mod_lt _ hn0
  have e1 : (m : Int) % 16 = 1 := by omega
  have e5 : (k : Int) / 8 % 6 = 5 := by omega
  have hcell := itCells_at l i (by omega)
  have HI := Lib.hid hI
  have HT := Lib.hid ht
  have HNE := Lib.hid hne
  rw [hn] at HI hl ⊢
  have and15 : bits .and .i64 m 15 = (m : Int) % 16 := bits_low 4 (by decide) m
  clear hI ht hne
  go_enter Tryd.func21, Tryd.ntmps21
  go_wp2_with (first
    | (at_builtin; (refine app_items3 rfl _ _ rfl w.heap.size _ 0 [] l w.heap.size b off cap (World.ownsRow_nil _ _ _ _) rfl (by rw [hn]; exact HI.out) (by rw [hn]; rfl) HNE.out (by omega) (by omega) (Nat.le_refl _) ?_); intro v1 w1 ho1 hb1 _; (rw [Nat.zero_add, List.nil_append, hn] at ho1); obtain ⟨g, c1, hv1, hg0, hg1, hgc, hfr⟩ := own_pos ho1 hn0; subst hv1; have q0 := (ho1.cellAt (i * 3 + 1) (by omega)).trans hcell.2.1; have f0 := hfr (i * 3 + 1); have HO1 := Lib.hid ho1; have HB1 := Lib.hid hb1; clear ho1 hb1 hfr)
    | fail)
  go_ret
  subst hn
  have ho := (World.ownsRow.stored HO1.out (i * 3 + 1) (.int .u64 1099511627776)).1
  rw [← itCells_set_n l i hlt] at ho
  have hy : Tame { l[i] with n := 1099511627776 } := ⟨by dsimp only; decide, by dsimp only; decide, (HT.out l[i] (List.getElem_mem hlt)).2.2⟩
  have hb := HB1.out.setCell (p := ⟨g, i * 3 + 1, none⟩) hg0 (.int .u64 1099511627776)
  exact spoil_end' (by simp) (ho.alloc _) (hb.alloc hb.size _) (tame_set HT.out hy) (by omega)
end Go.Proofs.YtepinmeidjlmmaaDoor
