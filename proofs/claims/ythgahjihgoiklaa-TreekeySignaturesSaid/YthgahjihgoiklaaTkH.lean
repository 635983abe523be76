/- Sign of the program. -/
import Derived.Test.YthgahjihgoiklaaTkG
namespace Go.Proofs.Ythgahjihgoiklaa
open Go.RowKit Go.Shelf
set_option maxRecDepth 100000
attribute [local go_sem] Oper.semAt_some

/-- append of one word that has been laid: what else stays -/
theorem step_words2 {ops : Array Oper} {o : Oper} {a : Act} {W : World} {K : Act → World → Prop} {Q : Exit → Act → World → Prop} {E : Prop} (hgd : o.guard = none) (s x : Operand)
    (ho : o.op = .call { callee := .builtin .append, args := #[s, x], argTypes := #[30, 30] })
    (base : Nat) (v : Value) (n : Nat) (xs : List (BitVec 64)) (u : BitVec 64) (b : Nat) (hown : W.ownsRow base 22 1 v n (wv xs)) (hs : a.eval s = v)
    (hI : Ws W (some ⟨b, 0, none⟩) 1 [u]) (hx : a.eval x = .slice (some ⟨b, 0, none⟩) 1 1) (hn : n ≤ 1000000) (hb : base ≤ W.heap.size)
    (h : ∀ v' w', w'.ownsRow base 22 1 v' (n + 1) (wv (xs ++ [u])) → Below base W w' → W.grownBy w' v.ownBlock → K (a.put o.dst v') w') :
    if Region.wanted o (yielded ops a.tmps) = true then Oper.wp Try.prog o a W K Q else E := by
  have hw : Region.wanted o (yielded ops a.tmps) = true := by simp [Region.wanted, hgd]
  rw [if_pos hw]
  obtain ⟨i0, hi, hz0, hz1, hz2⟩ := info_parts infoW
  refine wp_append_own W s x 30 ho base 22 i0 _ 1 8 Try.underlying30 hi hz0 hz1 hz2 rfl (by decide) v n _ hs hown ⟨b, 0, none⟩ 1 1 (wv [u]) hx rfl hI.cells (wv_one _) (by unfold maxLen; omega) (by omega) hb ?_
  intro v' w' h1 h2 _
  rw [← wv_app] at h1
  exact h v' w' h1 (below_of_grown hown hb h2) h2
theorem own_abide {B base : Nat} {e : TypeId} {sz : Nat} {v : Value} {n : Nat} {xs : List Value} : Abide B (fun W => W.ownsRow base e sz v n xs) := fun W W' h hs => by
  rcases h.2 with h0 | ⟨g, cap, cur, hv, hb, hh, rest⟩
  · exact ⟨h.1, .inl h0⟩
  · exact ⟨h.1, .inr ⟨g, cap, cur, hv, hb, hs.cells _ _ hh rfl, rest⟩⟩
theorem own_keeps {W W' : World} {base : Nat} {e : TypeId} {sz : Nat} {v : Value} {n : Nat} {xs : List Value} (h : W.ownsRow base e sz v n xs) (hg : W.grownBy W' v.ownBlock) : KeepsOthers W W' := by
  refine KeepsOthers.of_grownBy hg fun j o hj ho => ?_
  rcases h.2 with ⟨rfl, _⟩ | ⟨g, cap, cur, rfl, _, hh, _⟩
  · cases hj
  · cases hj
    rw [hh] at ho
    cases ho
    rfl
theorem Cs.grown {W W' : World} {g : Nat} {t : TypeId} {vs : List Value} {row : Option Nat} (h : Cs W g t vs) (hg : W.grownBy W' row) (hne : row ≠ some g) : Cs W' g t vs :=
  (hg.block g h.lt (fun e => hne e.symm)).trans h
theorem Same.cs {B : Nat} {W W' : World} (hs : Same B W W') {g : Nat} {t : TypeId} {vs : List Value} (h : Cs W g t vs) : Cs W' g t vs := hs.cells _ _ h rfl
theorem three_world {F : Fence} {n : Nat} {P : Program} {code : Code} {Q : Exit → Act → World → Prop} {a : Act} {w : World} (t1 t2 t3 : TypeId) (v1 v2 v3 : List Value)
    (h : ∀ W, Cs W w.heap.size t1 v1 → Cs W (w.heap.size + 1) t2 v2 → Cs W (w.heap.size + 1 + 1) t3 v3 → w.heap.size + 3 ≤ W.heap.size → Below w.heap.size w W → Code.wpIn F n P code Q a W) :
    Code.wpIn F n P code Q a (((w.alloc (.cells v1.toArray t1)).alloc (.cells v2.toArray t2)).alloc (.cells v3.toArray t3)) := by
  refine h _ (((Cs.new w t1 v1).grow _).grow _) ((Cs.at (by simp) t2 v2).grow _) (Cs.at (by simp) t3 v3) (by simp) ?_
  exact (((Below.refl _ w).alloc (Nat.le_refl _) _).alloc (by simp) _).alloc (by simp; omega) _
theorem two_worldI {F : Fence} {n : Nat} {P : Program} {code : Code} {Q : Exit → Act → World → Prop} {a : Act} {w : World} (t1 t2 : TypeId) (v1 v2 : List Value)
    (h : ∀ W, Cs W w.heap.size t1 v1 → Cs W (w.heap.size + 1) t2 v2 → w.heap.size + 2 ≤ W.heap.size → Below w.heap.size w W → Code.wpIn F n P code Q a W) :
    Code.wpIn F n P code Q a ((w.alloc (.cells v1.toArray t1)).alloc (.cells v2.toArray t2)) := by
  refine h _ ((Cs.new w t1 v1).grow _) (Cs.at (by simp) t2 v2) (by simp) ?_
  exact ((Below.refl _ w).alloc (Nat.le_refl _) _).alloc (by simp) _
/-- what holds between two rounds of Sign: the signature's block g, its chains in gA, the boxes at b -/
def SigI (s m : BitVec 64) (h l b g gA base : Nat) (k : Nat) (W : World) : Prop :=
  (∃ B c2, Cs W g 32 [.int .i64 (l : Int), .slice (some ⟨gA, 0, none⟩) 18 18, .slice B k c2] ∧ W.ownsRow base 22 1 (.slice B k c2) k (wv (pathF s l k))) ∧ k ≤ h ∧
    Cs W gA 73 (wv (vals (sigF s l m))) ∧ Cs W b 3 [.int .i64 (h : Int)] ∧ Cs W (b + 1) 3 [.int .i64 (l : Int)] ∧ Cs W (b + 1 + 1) 32 [.int .i64 0, .slice none 0 0, .slice none 0 0]
theorem SigI.abide {s m : BitVec 64} {h l b g gA base k B : Nat} : Abide B (SigI s m h l b g gA base k) := fun W W' hi hs => by
  obtain ⟨⟨B, c2, h1, h2⟩, h3, h4, h5, h6, h7⟩ := hi
  exact ⟨⟨B, c2, hs.cells _ _ h1 rfl, own_abide _ _ h2 hs⟩, h3, hs.cells _ _ h4 rfl, hs.cells _ _ h5 rfl, hs.cells _ _ h6 rfl, hs.cells _ _ h7 rfl⟩
set_option maxHeartbeats 4000000 in
theorem signS_ok (s m : BitVec 64) (h l : Nat) (hh : h ≤ 4) (hl : l < 2 ^ h) (w : World) :
    Calls Try.prog 13 #[.int .u64 (val s), .int .i64 (h : Int), .int .i64 (l : Int), .int .u64 (val m)] w fun e w' => ∃ A c B c2, e = .returned (.tuple #[.agg #[.int .i64 (l : Int), .slice A 18 c, .slice B h c2], .int .i64 0]) ∧
      Ws w' A 18 (vals (sigF s l m)) ∧ Ws w' B h (pathF s l h) ∧ Below w.heap.size w w' := by
  have HH : Hid (leafB (h : Int) (l : Int) = true) := Lib.hid (by
    unfold leafB hgtB
    simp only [Bool.and_eq_true, decide_eq_true_eq, Int.toNat_natCast]
    refine ⟨⟨⟨by omega, by omega⟩, by omega⟩, ?_⟩
    exact_mod_cast hl)
  refine (callsIn_wide (n := 4)).1 ?_
  refine callsIn_of_wp_marks Try.func13 rfl trivial ?_ rfl
  simp only [Try.ntmps13, List.size_toArray, List.length_cons, List.length_nil, Nat.reduceAdd, Nat.reduceSub, Array.replicate_succ, Array.replicate_zero, List.push_toArray, List.append_toArray, List.nil_append, List.cons_append]
  gi_wp2_with fail
  refine ⟨trivial, (callsIn_wide.2 (hasLeaf_any _ _ _)).mono ?_⟩
  rintro e w' ⟨rfl, rfl⟩
  rw [HH.out]
  gi_wp2
  refine three_world _ _ _ [.int .i64 (h : Int)] [.int .i64 (l : Int)] [.int .i64 0, .slice none 0 0, .slice none 0 0] ?_
  intro W0 hc1 hc2 hc3 hsz0 hb0
  have HC1 := Lib.hid hc1
  have HC2 := Lib.hid hc2
  have HC3 := Lib.hid hc3
  have HB0 := Lib.hid hb0
  have hl1 := hc1.lt
  have hl2 := hc2.lt
  have hl3 := hc3.lt
  clear hc1 hc2 hc3 hb0
  rename_i Qp Kp hKp
  have rest : ∀ (g gA : Nat) (W3 : World), W0.heap.size ≤ g → W0.heap.size ≤ gA → g ≠ gA → Hid (Below W0.heap.size W0 W3) → Hid (Cs W3 g 32 [.int .i64 (l : Int), .slice (some ⟨gA, 0, none⟩) 18 18, .slice none 0 0]) → Hid (Cs W3 gA 73 (wv (vals (sigF s l m)))) →
      Exit.then Kp Qp .normal { tmps := #[.int .u64 (val s), .int .i64 (h : Int), .int .i64 (l : Int), .int .u64 (val m), undef, .pointer (some ⟨w.heap.size, 0, none⟩), .pointer (some ⟨w.heap.size + 1, 0, none⟩), undef, .pointer (some ⟨w.heap.size + 1 + 1, 0, none⟩), .int .i64 0, .pointer (some ⟨g, 0, none⟩), undef, undef, .int .i64 (h : Int), .int .i64 (l : Int), .bool true, .bool false, undef, .int .i64 (l : Int), .int .u64 (val s), .int .i64 (l : Int), .int .u64 (val m), .slice (some ⟨gA, 0, none⟩) 18 18, .agg #[.int .i64 (l : Int), .slice (some ⟨gA, 0, none⟩) 18 18, .slice none 0 0], undef, undef, undef, undef, undef, undef, undef, undef, undef, undef, undef, undef, undef, undef, undef, undef, undef, undef, undef, undef, undef], defers := [] } W3 := by
    intro g gA W3 hg hgA hne HB3 HS3 HA3
    have hlg := HS3.out.lt
    have hlA := HA3.out.lt
    have HK1 := Lib.hid (HC1.out.below HB3.out hl1)
    have HK2 := Lib.hid (HC2.out.below HB3.out hl2)
    have HK3 := Lib.hid (HC3.out.below HB3.out hl3)
    have ch := HK1.out.cell 0
    simp only [List.getElem?_cons_zero] at ch
    gi_wp2_with fail
    refine ⟨trivial, (callsIn_wide.2 (levels_any s h _)).mono ?_⟩
    rintro e w4 ⟨rfl, rfl⟩
    gi_wp2
    clear ch
    refine two_worldI _ _ [.int .u64 (val s)] [.int .i64 (h : Int)] ?_
    intro W4 hd1 hd2 hsz4 hb4
    have hs30 := HB3.out.size
    refine wpIn_rangeV rfl (by omega) (gf := 45) (lb := #[.pointer (some ⟨W3.heap.size, 0, none⟩), .pointer (some ⟨W3.heap.size + 1, 0, none⟩)]) rfl trivial (enters_of Try.func45 (by kernel_rfl) rfl)
      (levels_seq (4 - 1) (by omega) s h W3.heap.size hh W4 hd1 hd2) (Below.refl _ _) (fun _ _ => rfl)
      (fun k W => SigI s m h l w.heap.size g gA W4.heap.size k W ∧ Below w.heap.size w W)
      (fun c k W => c = .exit 0 ∧ k = h ∧ SigI s m h l w.heap.size g gA W4.heap.size k W ∧ Below w.heap.size w W)
      (fun _ => SigI.abide.and (Abide.below' w (by omega)))
      (fun _ _ => (Abide.pure _).and ((Abide.pure _).and (SigI.abide.and (Abide.below' w (by omega)))))
      (fun _ _ => VL.abide)
      ⟨⟨⟨none, 0, HS3.out.below hb4 hlg, World.ownsRow_nil _ _ _ _⟩, Nat.zero_le _, HA3.out.below hb4 hlA, HK1.out.below hb4 (by omega), HK2.out.below hb4 (by omega), HK3.out.below hb4 (by omega)⟩, (HB0.out.trans (HB3.out.mono (by omega))).trans (hb4.mono (by omega))⟩
      (fun k g' => { tmps := #[.int .u64 (val s), .int .i64 (h : Int), .int .i64 (l : Int), .int .u64 (val m), undef, .pointer (some ⟨w.heap.size, 0, none⟩), .pointer (some ⟨w.heap.size + 1, 0, none⟩), undef, .pointer (some ⟨w.heap.size + 1 + 1, 0, none⟩), .int .i64 0, .pointer (some ⟨g, 0, none⟩), .int .i64 (k : Int), .slice (some ⟨g', 0, none⟩) (2 ^ (h - k)) (2 ^ (h - k)), .int .i64 (h : Int), .int .i64 (l : Int), .bool true, .bool false, undef, .int .i64 (l : Int), .int .u64 (val s), .int .i64 (l : Int), .int .u64 (val m), .slice (some ⟨gA, 0, none⟩) 18 18, .agg #[.int .i64 (l : Int), .slice (some ⟨gA, 0, none⟩) 18 18, .slice none 0 0], .int .u64 (val s), .int .i64 (h : Int), .func (.func 45) #[] #[.pointer (some ⟨W3.heap.size, 0, none⟩), .pointer (some ⟨W3.heap.size + 1, 0, none⟩)], .int .i64 (k : Int), .slice (some ⟨g', 0, none⟩) (2 ^ (h - k)) (2 ^ (h - k)), undef, undef, undef, undef, undef, undef, undef, undef, undef, undef, undef, undef, undef, undef, undef, undef], defers := [] }) ?assign ?body ?done ?stop
    case assign =>
      intro l' k g' W K hK
      dsimp only [argsL]
      gi_wp2
      exact hK
    case body =>
      rintro l' k g' W1 W hk ⟨hI, hb1⟩ hs hfr hv
      obtain ⟨⟨B, c2, hC1, hO1⟩, hkh, hA1, hH1, hL1, hR1⟩ := hI
      have hrow := hO1.lt
      have HC := Lib.hid (hs.cs hC1)
      have HO := Lib.hid (own_abide _ _ hO1 hs)
      have HA := Lib.hid (hs.cs hA1)
      have HH' := Lib.hid (hs.cs hH1)
      have HL := Lib.hid (hs.cs hL1)
      have HR := Lib.hid (hs.cs hR1)
      have HBw := Lib.hid (hb1.trans (hs.below.mono (by omega)))
      have HV := Lib.hid hv
      have hgV : W4.heap.size ≤ g' := hv.2.2.2
      have hgl := hv.2.2.1.lt
      have hsz := hs.below.size
      have HRow := Lib.hid hrow
      have ch := HH'.out.cell 0
      simp only [List.getElem?_cons_zero] at ch
      clear hC1 hO1 hA1 hH1 hL1 hR1 hb1 hs hv hrow
      obtain ⟨N, hN⟩ : ∃ N : Nat, 2 ^ (h - k) = N := ⟨_, rfl⟩
      rw [hN]
      by_cases hlt : k < h
      · have hlI : ¬ (k : Int) = (h : Int) := by omega
        obtain ⟨a, ha, ha2, ha3⟩ := sib_eq l k (by have := pow_le h hh; omega)
        have hsl := sib_lt l k h hl hlt
        obtain ⟨j, hj⟩ : ∃ j : Nat, sib l k = j := ⟨_, rfl⟩
        rw [hj] at ha3 hsl
        rw [hN] at hsl
        have hjN : (j : Int) < (N : Int) := by omega
        have hj0 : (0 : Int) ≤ (j : Int) := by omega
        have hjn : j < N := hsl
        have HJ := Lib.hid hj
        have HN := Lib.hid hN
        have hmk : min k 64 = k := by omega
        have hcn : ∀ W', Cs W' g' 22 (wv (levelF s h k)) → W'.cell? ⟨g', j, none⟩ = some (.int .u64 (val (treeN s k j))) := fun W' hW' => by
          rw [hW'.cell, wv_at _ _ (by rw [levelF_len, HN.out]; exact hjn), levelF_at _ _ _ _ (by rw [HN.out]; exact hjn)]
        have HCN := Lib.hid hcn
        clear hj hN hcn hsl
        gi_wp2
        have hS0 : (fun W' : World => Cs W' (w.heap.size + 1) 3 [.int .i64 (l : Int)] ∧ Cs W' g' 22 (wv (levelF s h k))) W.drew := ⟨HL.out.drew, HV.out.2.2.1.drew⟩
        have HS0 := Lib.hid hS0
        clear hS0 ch
        refine round_region_held (S := fun W' : World => Cs W' (w.heap.size + 1) 3 [.int .i64 (l : Int)] ∧ Cs W' g' 22 (wv (levelF s h k))) (by kernel_rfl) (by kernel_rfl) ?_
        refine heldS_take (i := 0) (v := ?_) rfl rfl (by kernel_rfl) (by kernel_rfl) (by kernel_rfl) (fun _ _ _ h => h) (by rfl) HS0.out ?_ ?_
        rotate_left
        · intro W' hW
          go_simp
          try with_reducible rfl
        simp only [Act.put, List.setIfInBounds_toArray, List.set_cons_zero, List.set_cons_succ]
        refine heldS_take (i := 2) (v := ?_) rfl rfl (by kernel_rfl) (by kernel_rfl) (by kernel_rfl) (fun _ _ _ h => h) (by rfl) HS0.out ?_ ?_
        rotate_left
        · intro W' hW
          go_simp
          try with_reducible rfl
        simp only [Act.put, List.setIfInBounds_toArray, List.set_cons_zero, List.set_cons_succ]
        refine heldS_take (i := 3) (v := ?_) rfl rfl (by kernel_rfl) (by kernel_rfl) (by kernel_rfl) (fun _ _ _ h => h) (by rfl) HS0.out ?_ ?_
        rotate_left
        · intro W' hW
          have cl := hW.1.cell 0
          simp only [List.getElem?_cons_zero] at cl
          go_simp
          try with_reducible rfl
        simp only [Act.put, List.setIfInBounds_toArray, List.set_cons_zero, List.set_cons_succ]
        refine heldS_take (i := 4) (v := ?_) rfl rfl (by kernel_rfl) (by kernel_rfl) (by kernel_rfl) (fun _ _ _ h => h) (by rfl) HS0.out ?_ ?_
        rotate_left
        · intro W' hW
          go_simp
          try with_reducible rfl
        simp only [Act.put, List.setIfInBounds_toArray, List.set_cons_zero, List.set_cons_succ]
        refine heldS_take (i := 5) (v := ?_) rfl rfl (by kernel_rfl) (by kernel_rfl) (by kernel_rfl) (fun _ _ _ h => h) (by rfl) HS0.out ?_ ?_
        rotate_left
        · intro W' hW
          go_simp
          try with_reducible rfl
        simp only [Act.put, List.setIfInBounds_toArray, List.set_cons_zero, List.set_cons_succ]
        refine heldS_take (i := 6) (v := ?_) rfl rfl (by kernel_rfl) (by kernel_rfl) (by kernel_rfl) (fun _ _ _ h => h) (by rfl) HS0.out ?_ ?_
        rotate_left
        · intro W' hW
          go_simp
          try with_reducible rfl
        simp only [Act.put, List.setIfInBounds_toArray, List.set_cons_zero, List.set_cons_succ]
        refine heldS_take (i := 7) (v := ?_) rfl rfl (by kernel_rfl) (by kernel_rfl) (by kernel_rfl) (fun _ _ _ h => h) (by rfl) HS0.out ?_ ?_
        rotate_left
        · intro W' hW
          go_simp
          try with_reducible rfl
        simp only [Act.put, List.setIfInBounds_toArray, List.set_cons_zero, List.set_cons_succ]
        refine heldS_take (i := 8) (v := ?_) rfl rfl (by kernel_rfl) (by kernel_rfl) (by kernel_rfl) (fun _ _ _ h => h) (by rfl) HS0.out ?_ ?_
        rotate_left
        · intro W' hW
          have cn := HCN.out W' hW.2
          go_simp
          try with_reducible rfl
        simp only [Act.put, List.setIfInBounds_toArray, List.set_cons_zero, List.set_cons_succ]
        refine heldS_two (i := 1) (j := 9) (by kernel_rfl) rfl rfl (fun K' hK => ?_) (fun K' hK => ?_)
        · have cp := HC.out.drew.cell 2
          simp only [List.getElem?_cons_succ, List.getElem?_cons_zero] at cp
          go_simp
          refine hK.out _ _ HS0.out ?_
          clear hK K' cp
          refine heldS_call (i := 9) (by kernel_rfl) rfl (fun K' hK => ?_)
          go_simp
          refine hK.out _ _ (⟨(HL.out.drew.grow (.cells #[.int .u64 (val (treeN s k j))] 22)), (HV.out.2.2.1.drew.grow (.cells #[.int .u64 (val (treeN s k j))] 22))⟩) ?_
          clear hK K'
          refine heldS_call (i := 10) (by kernel_rfl) rfl (fun K' hK => ?_)
          have hneg : (Value.slice B k c2).ownBlock ≠ some g := fun e => by have := (HRow.out _ e).1; omega
          have hneA : (Value.slice B k c2).ownBlock ≠ some gA := fun e => by have := (HRow.out _ e).1; omega
          have hne0 : (Value.slice B k c2).ownBlock ≠ some w.heap.size := fun e => by have := (HRow.out _ e).1; omega
          have hne1 : (Value.slice B k c2).ownBlock ≠ some (w.heap.size + 1) := fun e => by have := (HRow.out _ e).1; omega
          have hne2 : (Value.slice B k c2).ownBlock ≠ some (w.heap.size + 1 + 1) := fun e => by have := (HRow.out _ e).1; omega
          have hnev : (Value.slice B k c2).ownBlock ≠ some g' := fun e => by have := (HRow.out _ e).2; omega
          have hne3 : (Value.slice B k c2).ownBlock ≠ some W3.heap.size := fun e => by have := (HRow.out _ e).1; omega
          have hne4 : (Value.slice B k c2).ownBlock ≠ some (W3.heap.size + 1) := fun e => by have := (HRow.out _ e).1; omega
          have HNE := Lib.hid (And.intro hneg (And.intro hneA (And.intro hne0 (And.intro hne1 (And.intro hne2 (And.intro hnev (And.intro hne3 hne4)))))))
          clear hneg hneA hne0 hne1 hne2 hnev hne3 hne4
          refine step_words2 rfl _ _ rfl W4.heap.size _ k (pathF s l k) (treeN s k j) W.drew.heap.size (HO.out.drew.alloc _) rfl (Ws.one W.drew _) rfl (by omega) (by simp; omega) ?_
          intro v4 w4 ho4 hb4 hg4
          have HX := Lib.hid (((HC.out.drew).grow (.cells #[.int .u64 (val (treeN s k j))] 22)).grown hg4 HNE.out.1)
          have HA4 := Lib.hid (((HA.out.drew).grow (.cells #[.int .u64 (val (treeN s k j))] 22)).grown hg4 HNE.out.2.1)
          have HH4 := Lib.hid (((HH'.out.drew).grow (.cells #[.int .u64 (val (treeN s k j))] 22)).grown hg4 HNE.out.2.2.1)
          have HL4 := Lib.hid (((HL.out.drew).grow (.cells #[.int .u64 (val (treeN s k j))] 22)).grown hg4 HNE.out.2.2.2.1)
          have HR4 := Lib.hid (((HR.out.drew).grow (.cells #[.int .u64 (val (treeN s k j))] 22)).grown hg4 HNE.out.2.2.2.2.1)
          have HV4 := Lib.hid (((HV.out.2.2.1.drew).grow (.cells #[.int .u64 (val (treeN s k j))] 22)).grown hg4 HNE.out.2.2.2.2.2.1)
          have HU4 := Lib.hid (((HV.out.1.drew).grow (.cells #[.int .u64 (val (treeN s k j))] 22)).grown hg4 HNE.out.2.2.2.2.2.2.1)
          have HT4 := Lib.hid (((HV.out.2.1.drew).grow (.cells #[.int .u64 (val (treeN s k j))] 22)).grown hg4 HNE.out.2.2.2.2.2.2.2)
          have HKo := Lib.hid (((KeepsOthers.drew W).trans (KeepsOthers.alloc W.drew (.cells #[.int .u64 (val (treeN s k j))] 22))).trans (own_keeps (HO.out.drew.alloc _) hg4))
          have HB4 := Lib.hid ((HBw.out.drew.alloc (by simp; omega) (.cells #[.int .u64 (val (treeN s k j))] 22)).trans (hb4.mono (by omega)))
          refine hK.out _ _ ⟨HL4.out, HV4.out⟩ ?_
          clear hK K'
          obtain ⟨B4, c4, rfl, _⟩ := own_words ho4
          rw [← HJ.out, pathF_succ] at ho4
          have HO4 := Lib.hid (ownsRow_setCell_below ho4 (a := ⟨g, 2, none⟩) (by simp; omega) (.slice B4 (k + 1) c4))
          have c4a := HX.out.cell 2
          have f4a := HX.out.free 2
          simp only [List.getElem?_cons_succ, List.getElem?_cons_zero] at c4a
          clear ho4 hb4 hg4
          refine heldS_take (i := 11) (v := ?_) rfl rfl (by kernel_rfl) (by kernel_rfl) (by kernel_rfl) (fun _ _ _ h => h) (by rfl) ⟨HL4.out, HV4.out⟩ ?_ ?_
          rotate_left
          · intro W' hW
            go_simp
            try with_reducible rfl
          simp only [Act.put, List.setIfInBounds_toArray]
          refine heldS_call (i := 12) (by kernel_rfl) rfl (fun K' hK => ?_)
          go_simp
          refine hK.out _ _ (⟨HL4.out.far_set 2 _ (by omega), HV4.out.far_set 2 _ (by omega)⟩) ?_
          clear hK K'
          refine heldN_done (by kernel_rfl) ?_ _
          gi_wp2
          refine ⟨(HKo.out.trans (KeepsOthers.setCell _ _ _)).from _, ⟨⟨⟨B4, c4, HX.out.set_ 2 _, HO4.out⟩, hlt, HA4.out.far_set 2 _ (by omega), HH4.out.far_set 2 _ (by omega), HL4.out.far_set 2 _ (by omega), HR4.out.far_set 2 _ (by omega)⟩, HB4.out.setCell (by simp; omega) _⟩, ?_⟩
          exact ⟨HU4.out.far_set 2 _ (by omega), HT4.out.far_set 2 _ (by omega), HV4.out.far_set 2 _ (by omega), HV.out.2.2.2⟩
        · go_simp
          refine hK.out _ _ ⟨(HL.out.drew.grow (.cells #[.int .u64 (val (treeN s k j))] 22)), (HV.out.2.2.1.drew.grow (.cells #[.int .u64 (val (treeN s k j))] 22))⟩ ?_
          clear hK K'
          refine heldS_call (i := 1) (by kernel_rfl) rfl (fun K' hK => ?_)
          have cp := (HC.out.grow (.cells #[.int .u64 (val (treeN s k j))] 22)).cell 2
          simp only [List.getElem?_cons_succ, List.getElem?_cons_zero] at cp
          go_simp
          refine hK.out _ _ ⟨(HL.out.drew.grow (.cells #[.int .u64 (val (treeN s k j))] 22)), (HV.out.2.2.1.drew.grow (.cells #[.int .u64 (val (treeN s k j))] 22))⟩ ?_
          clear hK K' cp
          refine heldS_call (i := 10) (by kernel_rfl) rfl (fun K' hK => ?_)
          have hneg : (Value.slice B k c2).ownBlock ≠ some g := fun e => by have := (HRow.out _ e).1; omega
          have hneA : (Value.slice B k c2).ownBlock ≠ some gA := fun e => by have := (HRow.out _ e).1; omega
          have hne0 : (Value.slice B k c2).ownBlock ≠ some w.heap.size := fun e => by have := (HRow.out _ e).1; omega
          have hne1 : (Value.slice B k c2).ownBlock ≠ some (w.heap.size + 1) := fun e => by have := (HRow.out _ e).1; omega
          have hne2 : (Value.slice B k c2).ownBlock ≠ some (w.heap.size + 1 + 1) := fun e => by have := (HRow.out _ e).1; omega
          have hnev : (Value.slice B k c2).ownBlock ≠ some g' := fun e => by have := (HRow.out _ e).2; omega
          have hne3 : (Value.slice B k c2).ownBlock ≠ some W3.heap.size := fun e => by have := (HRow.out _ e).1; omega
          have hne4 : (Value.slice B k c2).ownBlock ≠ some (W3.heap.size + 1) := fun e => by have := (HRow.out _ e).1; omega
          have HNE := Lib.hid (And.intro hneg (And.intro hneA (And.intro hne0 (And.intro hne1 (And.intro hne2 (And.intro hnev (And.intro hne3 hne4)))))))
          clear hneg hneA hne0 hne1 hne2 hnev hne3 hne4
          refine step_words2 rfl _ _ rfl W4.heap.size _ k (pathF s l k) (treeN s k j) W.drew.heap.size (HO.out.drew.alloc _) rfl (Ws.one W.drew _) rfl (by omega) (by simp; omega) ?_
          intro v4 w4 ho4 hb4 hg4
          have HX := Lib.hid (((HC.out.drew).grow (.cells #[.int .u64 (val (treeN s k j))] 22)).grown hg4 HNE.out.1)
          have HA4 := Lib.hid (((HA.out.drew).grow (.cells #[.int .u64 (val (treeN s k j))] 22)).grown hg4 HNE.out.2.1)
          have HH4 := Lib.hid (((HH'.out.drew).grow (.cells #[.int .u64 (val (treeN s k j))] 22)).grown hg4 HNE.out.2.2.1)
          have HL4 := Lib.hid (((HL.out.drew).grow (.cells #[.int .u64 (val (treeN s k j))] 22)).grown hg4 HNE.out.2.2.2.1)
          have HR4 := Lib.hid (((HR.out.drew).grow (.cells #[.int .u64 (val (treeN s k j))] 22)).grown hg4 HNE.out.2.2.2.2.1)
          have HV4 := Lib.hid (((HV.out.2.2.1.drew).grow (.cells #[.int .u64 (val (treeN s k j))] 22)).grown hg4 HNE.out.2.2.2.2.2.1)
          have HU4 := Lib.hid (((HV.out.1.drew).grow (.cells #[.int .u64 (val (treeN s k j))] 22)).grown hg4 HNE.out.2.2.2.2.2.2.1)
          have HT4 := Lib.hid (((HV.out.2.1.drew).grow (.cells #[.int .u64 (val (treeN s k j))] 22)).grown hg4 HNE.out.2.2.2.2.2.2.2)
          have HKo := Lib.hid (((KeepsOthers.drew W).trans (KeepsOthers.alloc W.drew (.cells #[.int .u64 (val (treeN s k j))] 22))).trans (own_keeps (HO.out.drew.alloc _) hg4))
          have HB4 := Lib.hid ((HBw.out.drew.alloc (by simp; omega) (.cells #[.int .u64 (val (treeN s k j))] 22)).trans (hb4.mono (by omega)))
          refine hK.out _ _ ⟨HL4.out, HV4.out⟩ ?_
          clear hK K'
          obtain ⟨B4, c4, rfl, _⟩ := own_words ho4
          rw [← HJ.out, pathF_succ] at ho4
          have HO4 := Lib.hid (ownsRow_setCell_below ho4 (a := ⟨g, 2, none⟩) (by simp; omega) (.slice B4 (k + 1) c4))
          have c4a := HX.out.cell 2
          have f4a := HX.out.free 2
          simp only [List.getElem?_cons_succ, List.getElem?_cons_zero] at c4a
          clear ho4 hb4 hg4
          refine heldS_take (i := 11) (v := ?_) rfl rfl (by kernel_rfl) (by kernel_rfl) (by kernel_rfl) (fun _ _ _ h => h) (by rfl) ⟨HL4.out, HV4.out⟩ ?_ ?_
          rotate_left
          · intro W' hW
            go_simp
            try with_reducible rfl
          simp only [Act.put, List.setIfInBounds_toArray]
          refine heldS_call (i := 12) (by kernel_rfl) rfl (fun K' hK => ?_)
          go_simp
          refine hK.out _ _ (⟨HL4.out.far_set 2 _ (by omega), HV4.out.far_set 2 _ (by omega)⟩) ?_
          clear hK K'
          refine heldN_done (by kernel_rfl) ?_ _
          gi_wp2
          refine ⟨(HKo.out.trans (KeepsOthers.setCell _ _ _)).from _, ⟨⟨⟨B4, c4, HX.out.set_ 2 _, HO4.out⟩, hlt, HA4.out.far_set 2 _ (by omega), HH4.out.far_set 2 _ (by omega), HL4.out.far_set 2 _ (by omega), HR4.out.far_set 2 _ (by omega)⟩, HB4.out.setCell (by simp; omega) _⟩, ?_⟩
          exact ⟨HU4.out.far_set 2 _ (by omega), HT4.out.far_set 2 _ (by omega), HV4.out.far_set 2 _ (by omega), HV.out.2.2.2⟩

      · obtain rfl : k = h := by omega
        have hkI : (k : Int) = (k : Int) := rfl
        gi_wp2
        exact ⟨KeepsFrom.refl _ _, rfl, rfl, ⟨⟨B, c2, HC.out, HO.out⟩, hkh, HA.out, HH'.out, HL.out, HR.out⟩, HBw.out⟩
    case done =>
      rintro D W hD ⟨⟨_, h2, _⟩, _⟩ hK
      omega
    case stop =>
      rintro D c k W hD ⟨rfl, rfl, hI, hb⟩ hK
      obtain ⟨⟨B, c2, hC, hO⟩, _, hA, hH, hL, hR⟩ := hI
      have q0 := hC.cell 0
      have q1 := hC.cell 1
      have q2 := hC.cell 2
      have r0 := hR.cell 0
      have r1 := hR.cell 1
      have r2 := hR.cell 2
      have f0 := hR.free 0
      have f1 := hR.free 1
      have f2 := hR.free 2
      simp only [List.getElem?_cons_succ, List.getElem?_cons_zero] at q0 q1 q2 r0 r1 r2
      have HO := Lib.hid hO
      have HA := Lib.hid hA
      have HR := Lib.hid hR
      have HBw := Lib.hid hb
      have HK := Lib.hid hK
      clear hO hA hH hL hR hb hK hC
      gi_wp2
      have hR2 := ((HR.out.set_ 0 (.int .i64 (l : Int))).set_ 1 (.slice (some ⟨gA, 0, none⟩) 18 18)).set_ 2 (.slice B k c2)
      have hA2 := ((HA.out.far_set (g' := w.heap.size + 1 + 1) 0 (.int .i64 (l : Int)) (by omega)).far_set (g' := w.heap.size + 1 + 1) 1 (.slice (some ⟨gA, 0, none⟩) 18 18) (by omega)).far_set (g' := w.heap.size + 1 + 1) 2 (.slice B k c2) (by omega)
      have hO2 := ownsRow_setCell_below (ownsRow_setCell_below (ownsRow_setCell_below HO.out (a := ⟨w.heap.size + 1 + 1, 0, none⟩) (by simp; omega) (.int .i64 (l : Int))) (a := ⟨w.heap.size + 1 + 1, 1, none⟩) (by simp; omega) (.slice (some ⟨gA, 0, none⟩) 18 18)) (a := ⟨w.heap.size + 1 + 1, 2, none⟩) (by simp; omega) (.slice B k c2)
      have hK2 := (((KeepsOthers.setCell W ⟨w.heap.size + 1 + 1, 0, none⟩ (.int .i64 (l : Int))).trans (KeepsOthers.setCell _ ⟨w.heap.size + 1 + 1, 1, none⟩ (.slice (some ⟨gA, 0, none⟩) 18 18))).trans (KeepsOthers.setCell _ ⟨w.heap.size + 1 + 1, 2, none⟩ (.slice B k c2))).same D _ HK.out rfl
      have hb2 := ((HBw.out.setCell (p := ⟨w.heap.size + 1 + 1, 0, none⟩) (by simp; omega) (.int .i64 (l : Int))).setCell (p := ⟨w.heap.size + 1 + 1, 1, none⟩) (by simp; omega) (.slice (some ⟨gA, 0, none⟩) 18 18)).setCell (p := ⟨w.heap.size + 1 + 1, 2, none⟩) (by simp; omega) (.slice B k c2)
      obtain ⟨W2, hW2⟩ : ∃ W2, ((W.setCell ⟨w.heap.size + 1 + 1, 0, none⟩ (.int .i64 (l : Int))).setCell ⟨w.heap.size + 1 + 1, 1, none⟩ (.slice (some ⟨gA, 0, none⟩) 18 18)).setCell ⟨w.heap.size + 1 + 1, 2, none⟩ (.slice B k c2) = W2 := ⟨_, rfl⟩
      rw [hW2] at hR2 hA2 hO2 hK2 hb2 ⊢
      clear hW2 q0 q1 q2 r0 r1 r2 f0 f1 f2
      refine ⟨by simp, .inl ⟨_, _, rfl, run_takeDeferred hK2, ?_⟩⟩
      have hR3 := hR2.shut hK2
      have hA3 := Ws.of_cs (hA2.shut hK2)
      rw [vals_len] at hA3
      have hO3 := own_abide (B := 0) _ _ hO2 (Same.turn (.deferred none) hK2 rfl (Nat.zero_le _))
      obtain ⟨B', c', e', hWB⟩ := own_words hO3
      cases e'
      have r0 := hR3.cell 0
      have r1 := hR3.cell 1
      have r2 := hR3.cell 2
      simp only [List.set_cons_zero, List.set_cons_succ, List.getElem?_cons_succ, List.getElem?_cons_zero] at r0 r1 r2
      refine ⟨.tuple #[.agg #[.int .i64 (l : Int), .slice (some ⟨gA, 0, none⟩) 18 18, .slice B k c2], .int .i64 0], ?_, _, _, _, _, rfl, hA3, hWB, below_shut hb2 hK2 (by omega)⟩
      simp [results, Try.results13, go_sem, r0, r1, r2]
  refine wide_region_held (S := fun W => Below W0.heap.size W0 W) (by kernel_rfl) (by kernel_rfl) ?_
  refine heldS_take (i := 0) (v := ?_) rfl rfl (by kernel_rfl) (by kernel_rfl) (by kernel_rfl) (fun _ _ _ h => h) (by rfl) ((Below.refl _ W0).drew) ?_ ?_
  rotate_left
  · intro W hW
    have cl := (HC2.out.below hW hl2).cell 0
    simp only [List.getElem?_cons_zero] at cl
    go_simp
    try with_reducible rfl
  simp only [Act.put, List.setIfInBounds_toArray, List.set_cons_zero, List.set_cons_succ]
  refine heldS_take (i := 1) (v := ?_) rfl rfl (by kernel_rfl) (by kernel_rfl) (by kernel_rfl) (fun _ _ _ h => h) (by rfl) ((Below.refl _ W0).drew) ?_ ?_
  rotate_left
  · intro W hW
    go_simp
    try with_reducible rfl
  simp only [Act.put, List.setIfInBounds_toArray, List.set_cons_zero, List.set_cons_succ]
  refine heldS_take (i := 2) (v := ?_) rfl rfl (by kernel_rfl) (by kernel_rfl) (by kernel_rfl) (fun _ _ _ h => h) (by rfl) ((Below.refl _ W0).drew) ?_ ?_
  rotate_left
  · intro W hW
    have cl := (HC2.out.below hW hl2).cell 0
    simp only [List.getElem?_cons_zero] at cl
    go_simp
    try with_reducible rfl
  simp only [Act.put, List.setIfInBounds_toArray, List.set_cons_zero, List.set_cons_succ]
  refine heldS_take (i := 3) (v := ?_) rfl rfl (by kernel_rfl) (by kernel_rfl) (by kernel_rfl) (fun _ _ _ h => h) (by rfl) ((Below.refl _ W0).drew) ?_ ?_
  rotate_left
  · intro W hW
    go_simp
    try with_reducible rfl
  simp only [Act.put, List.setIfInBounds_toArray, List.set_cons_zero, List.set_cons_succ]
  refine heldS_two (i := 4) (j := 6) (by kernel_rfl) rfl rfl (fun K' hK => ?_) (fun K' hK => ?_)
  · go_simp
    refine (sign_any s l m _).mono ?_
    rintro e w1 ⟨rfl, hcs, hb⟩
    have hS : Below W0.heap.size W0 w1 := ((Below.refl _ W0).drew).trans hb
    refine hK.out _ _ hS ?_
    clear hK K'
    have HA1 := Lib.hid hcs
    have HB1 := Lib.hid hS
    have hs1 := hS.size
    have hla := hcs.lt
    clear hcs hb hS
    refine heldS_take (i := 5) (v := ?_) rfl rfl (by kernel_rfl) (by kernel_rfl) (by kernel_rfl) (fun _ _ _ h => h) (by rfl) HB1.out ?_ ?_
    rotate_left
    · intro W hW
      go_simp
      try with_reducible rfl
    simp only [Act.put, List.setIfInBounds_toArray, List.set_cons_zero, List.set_cons_succ]
    refine heldS_call (i := 6) (by kernel_rfl) rfl (fun K' hK => ?_)
    go_simp
    refine hK.out _ _ (HB1.out.alloc hs1 _) ?_
    clear hK K'
    refine heldS_call (i := 7) (by kernel_rfl) rfl (fun K' hK => ?_)
    go_simp
    refine hK.out _ _ (HB1.out.alloc hs1 _) ?_
    clear hK K'
    refine heldN_done (by kernel_rfl) ?_ _
    exact rest w1.heap.size W0.heap.size _ hs1 (Nat.le_refl _) (Nat.ne_of_gt hla) (Lib.hid (HB1.out.alloc hs1 _)) (Lib.hid (Cs.new w1 _ _)) (Lib.hid (HA1.out.grow _))
  · go_simp
    refine hK.out _ _ (((Below.refl _ W0).drew).alloc (Nat.le_refl _) _) ?_
    clear hK K'
    refine heldS_call (i := 4) (by kernel_rfl) rfl (fun K' hK => ?_)
    go_simp
    refine (sign_any s l m _).mono ?_
    rintro e w1 ⟨rfl, hcs, hb⟩
    have hS : Below W0.heap.size W0 w1 := (((Below.refl _ W0).drew).alloc (Nat.le_refl _) _).trans (hb.mono (by simp))
    refine hK.out _ _ hS ?_
    clear hK K'
    have HA1 := Lib.hid hcs
    have HB1 := Lib.hid hS
    have hg1 : Cs w1 W0.heap.size 32 [.int .i64 0, .slice none 0 0, .slice none 0 0] := (Cs.new W0.drew 32 [.int .i64 0, .slice none 0 0, .slice none 0 0]).below hb (by simp)
    have HG1 := Lib.hid hg1
    have c0 := HG1.out.cell 0
    have c1 := HG1.out.cell 1
    have c2 := HG1.out.cell 2
    have f0 := HG1.out.free 0
    have f1 := HG1.out.free 1
    have f2 := HG1.out.free 2
    have hs1 := hS.size
    simp only [List.getElem?_cons_succ, List.getElem?_cons_zero] at c0 c1 c2
    clear hcs hb hS hg1
    refine heldS_take (i := 5) (v := ?_) rfl rfl (by kernel_rfl) (by kernel_rfl) (by kernel_rfl) (fun _ _ _ h => h) (by rfl) HB1.out ?_ ?_
    rotate_left
    · intro W hW
      go_simp
      try with_reducible rfl
    simp only [Act.put, List.setIfInBounds_toArray, List.set_cons_zero, List.set_cons_succ]
    refine heldS_call (i := 7) (by kernel_rfl) rfl (fun K' hK => ?_)
    go_simp
    refine hK.out _ _ (((HB1.out.setCell (p := ⟨W0.heap.size, 0, none⟩) (Nat.le_refl _) _).setCell (p := ⟨W0.heap.size, 1, none⟩) (Nat.le_refl _) _).setCell (p := ⟨W0.heap.size, 2, none⟩) (Nat.le_refl _) _) ?_
    clear hK K'
    refine heldN_done (by kernel_rfl) ?_ _
    have hA2 : Cs w1 (W0.heap.size + 1) 73 (wv (vals (sigF s l m))) := by
      first
        | exact HA1.out
        | simpa using HA1.out
    refine rest W0.heap.size (W0.heap.size + 1) _ (Nat.le_refl _) (Nat.le_succ _) (by omega) (Lib.hid (((HB1.out.setCell (p := ⟨W0.heap.size, 0, none⟩) (Nat.le_refl _) _).setCell (p := ⟨W0.heap.size, 1, none⟩) (Nat.le_refl _) _).setCell (p := ⟨W0.heap.size, 2, none⟩) (Nat.le_refl _) _)) (Lib.hid (((HG1.out.set_ 0 _).set_ 1 _).set_ 2 _)) (Lib.hid (((hA2.far_set 0 _ (by omega)).far_set 1 _ (by omega)).far_set 2 _ (by omega)))
end Go.Proofs.Ythgahjihgoiklaa
