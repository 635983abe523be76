/- Public of the program. -/
import Derived.Test.YthgahjihgoiklaaTkD
namespace Go.Proofs.Ythgahjihgoiklaa
open Go.RowKit Go.Shelf
set_option maxRecDepth 100000
attribute [local go_sem] Oper.semAt_some

theorem levels_any (s : BitVec 64) (h : Int) (w : World) :
    Calls Try.prog 26 #[.int .u64 (val s), .int .i64 h] w fun e w' => e = .returned (.func (.func 45) #[] #[.pointer (some ⟨w.heap.size, 0, none⟩), .pointer (some ⟨w.heap.size + 1, 0, none⟩)]) ∧
      w' = (w.alloc (.cells #[.int .u64 (val s)] 22)).alloc (.cells #[.int .i64 h] 3) := by
  go_enter Try.func26, Try.ntmps26
  go_wp2
  go_ret
  exact ⟨rfl, rfl⟩
theorem Cs.abide {B g : Nat} {t : TypeId} {vs : List Value} : Abide B (fun W => Cs W g t vs) := fun _ _ h hs => hs.cells _ _ h rfl
theorem VL.abide {s : BitVec 64} {h B n0 k g B' : Nat} : Abide B' (VL s h B n0 k g) := Cs.abide.and (Cs.abide.and (Cs.abide.and (Abide.pure _)))
/-- the root that is known when k levels have come -/
def rootTo (s : BitVec 64) : Nat → BitVec 64
  | 0 => 0#64
  | k + 1 => treeN s k 0
theorem public_bad (s : BitVec 64) (h : Int) (hh : hgtB h = false) (w : World) :
    Calls Try.prog 10 #[.int .u64 (val s), .int .i64 h] w fun e w' => e = .returned (.tuple #[.agg #[.int .i64 0, .int .u64 0], .int .i64 9]) ∧ Below w.heap.size w w' := by
  have HH := Lib.hid hh
  clear hh
  go_enter Try.func10, Try.ntmps10
  go_wp2_with fail
  refine (hgt_any h _).mono ?_
  rintro e w' ⟨rfl, rfl⟩
  rw [HH.out]
  go_wp2
  exact bodyPost_ret (v := .tuple #[.agg #[.int .i64 0, .int .u64 0], .int .i64 9]) (by simp [results, Try.results10, go_sem]) rfl ⟨rfl, ((Below.refl _ _).alloc (Nat.le_refl _) _)⟩
theorem Cs.grow {w : World} {g : Nat} {t : TypeId} {vs : List Value} (h : Cs w g t vs) (o : Obj) : Cs (w.alloc o) g t vs := h.below ((Below.refl _ w).alloc (Nat.le_refl _) o) h.lt
theorem Cs.at {w : World} {n : Nat} (hn : w.heap.size = n) (t : TypeId) (vs : List Value) : Cs (w.alloc (.cells vs.toArray t)) n t vs := by rw [← hn]; exact Cs.new w t vs
theorem four_world {F : Fence} {n : Nat} {P : Program} {code : Code} {Q : Exit → Act → World → Prop} {a : Act} {w : World} (t1 t2 t3 t4 : TypeId) (v1 v2 v3 v4 : List Value)
    (h : ∀ W, Cs W w.heap.size t1 v1 → Cs W (w.heap.size + 1) t2 v2 → Cs W (w.heap.size + 1 + 1) t3 v3 → Cs W (w.heap.size + 1 + 1 + 1) t4 v4 → w.heap.size + 4 ≤ W.heap.size → Below w.heap.size w W → Code.wpIn F n P code Q a W) :
    Code.wpIn F n P code Q a ((((w.alloc (.cells v1.toArray t1)).alloc (.cells v2.toArray t2)).alloc (.cells v3.toArray t3)).alloc (.cells v4.toArray t4)) := by
  refine h _ ((((Cs.new w t1 v1).grow _).grow _).grow _) (((Cs.at (by simp) t2 v2).grow _).grow _) ((Cs.at (by simp) t3 v3).grow _) (Cs.at (by simp) t4 v4) (by simp) ?_
  exact ((((Below.refl _ w).alloc (Nat.le_refl _) _).alloc (by simp) _).alloc (by simp; omega) _).alloc (by simp; omega) _
theorem Cs.shut {W : World} {D g : Nat} {t : TypeId} {vs : List Value} (h : Cs W g t vs) (hK : W.heap[D]? = some (.deferred (some []))) : Cs (W.putObj D (.deferred none)) g t vs :=
  (Same.turn (B := 0) _ hK rfl (Nat.zero_le _)).cells _ _ h rfl
theorem below_shut {W w : World} {D B : Nat} (h : Below B w W) (hK : W.heap[D]? = some (.deferred (some []))) (hB : B ≤ D) : Below B w (W.putObj D (.deferred none)) :=
  h.trans (Same.turn (B := B) _ hK rfl hB).below
set_option maxHeartbeats 2000000 in
theorem public_ok (s : BitVec 64) (h : Nat) (hh : h ≤ 4) (w : World) :
    Calls Try.prog 10 #[.int .u64 (val s), .int .i64 (h : Int)] w fun e w' => e = .returned (.tuple #[.agg #[.int .i64 (h : Int), .int .u64 (val (treeN s h 0))], .int .i64 0]) ∧ Below w.heap.size w w' := by
  have HH : Hid (hgtB (h : Int) = true) := Lib.hid (by unfold hgtB; simp; omega)
  refine (callsIn_wide (n := 4)).1 ?_
  refine callsIn_of_wp_marks Try.func10 rfl trivial ?_ rfl
  simp only [Try.ntmps10, List.size_toArray, List.length_cons, List.length_nil, Nat.reduceAdd, Nat.reduceSub, Array.replicate_succ, Array.replicate_zero, List.push_toArray, List.append_toArray, List.nil_append, List.cons_append]
  gi_wp2_with fail
  refine ⟨trivial, (callsIn_wide.2 (hgt_any _ _)).mono ?_⟩
  rintro e w' ⟨rfl, rfl⟩
  rw [HH.out]
  gi_wp2_with fail
  refine ⟨trivial, (callsIn_wide.2 (levels_any s h _)).mono ?_⟩
  rintro e w1 ⟨rfl, rfl⟩
  gi_wp2
  refine four_world _ _ _ _ [.int .i64 0, .int .u64 0] [.int .i64 (h : Int), .int .u64 0] [.int .u64 (val s)] [.int .i64 (h : Int)] ?_
  intro W0 hc1 hc2 hc3 hc4 hsz0 hb0
  have HB0 := Lib.hid hb0
  have hl2 := hc2.lt
  have hl4 := hc4.lt
  refine wpIn_rangeV rfl (by omega) (gf := 45) (lb := #[.pointer (some ⟨w.heap.size + 1 + 1, 0, none⟩), .pointer (some ⟨w.heap.size + 1 + 1 + 1, 0, none⟩)]) rfl trivial (enters_of Try.func45 (by kernel_rfl) rfl)
    (levels_seq (4 - 1) (by omega) s h (w.heap.size + 1 + 1) hh W0 hc3 hc4) (Below.refl _ _) (fun _ _ => rfl)
    (fun k W => Cs W w.heap.size 24 [.int .i64 0, .int .u64 0] ∧ Cs W (w.heap.size + 1) 24 [.int .i64 (h : Int), .int .u64 (val (rootTo s k))] ∧ Below w.heap.size w W)
    (fun _ _ _ => False)
    (fun _ => Cs.abide.and (Cs.abide.and (Abide.below' w (by omega))))
    (fun _ _ => Abide.pure _)
    (fun _ _ => VL.abide)
    ⟨hc1, hc2, hb0⟩
    (fun k g => { tmps := #[.int .u64 (val s), .int .i64 (h : Int), undef, undef, .pointer (some ⟨w.heap.size, 0, none⟩), .int .i64 0, .pointer (some ⟨w.heap.size + 1, 0, none⟩), undef, .slice (some ⟨g, 0, none⟩) (2 ^ (h - k)) (2 ^ (h - k)), .int .i64 (h : Int), .bool true, .bool false, undef, .int .i64 (h : Int),
          .agg #[.int .i64 (h : Int), .int .u64 0], .int .u64 (val s), .int .i64 (h : Int), .func (.func 45) #[] #[.pointer (some ⟨w.heap.size + 1 + 1, 0, none⟩), .pointer (some ⟨w.heap.size + 1 + 1 + 1, 0, none⟩)],
          .int .i64 (k : Int), .slice (some ⟨g, 0, none⟩) (2 ^ (h - k)) (2 ^ (h - k)), undef, undef, undef, undef, undef], defers := [] }) ?assign ?body ?done ?stop
  case assign =>
    intro l k g W K hK
    dsimp only [argsL]
    gi_wp2
    exact hK
  case body =>
    rintro l k g W1 W hk ⟨hi1, hi2, hi3⟩ hs hfr hv
    have hk' : k ≤ h := by omega
    have hp := pow_le (h - k) (by omega)
    have hp0 : (0 : Int) < ((2 ^ (h - k) : Nat) : Int) := by omega
    have hp1 : 0 < 2 ^ (h - k) := by omega
    have cg : W.cell? ⟨g, 0, none⟩ = some (.int .u64 (val (treeN s k 0))) := by
      rw [hv.2.2.1.cell, wv_at _ _ (by rw [levelF_len]; omega), levelF_at _ _ _ _ (by omega)]
    have HI := Lib.hid (⟨hs.cells _ _ hi1 rfl, hs.cells _ _ hi2 rfl, hi3.trans (hs.below.mono (by omega))⟩ : Cs W w.heap.size 24 [.int .i64 0, .int .u64 0] ∧ Cs W (w.heap.size + 1) 24 [.int .i64 (h : Int), .int .u64 (val (rootTo s k))] ∧ Below w.heap.size w W)
    have HV := Lib.hid hv
    have c2 := HI.out.2.1.cell 1
    have f2 := HI.out.2.1.free 1
    have hsz := hs.below.size
    have hlt1 := hi1.lt
    simp only [List.getElem?_cons_succ, List.getElem?_cons_zero] at c2
    clear hi1 hi2 hi3 hs hv
    gi_wp2
    refine ⟨(KeepsOthers.setCell _ _ _).from _, ⟨HI.out.1.far_set 1 _ (by omega), HI.out.2.1.set_ 1 (.int .u64 (val (treeN s k 0))), HI.out.2.2.setCell (Nat.le_succ _) _⟩, ?_⟩
    exact ⟨HV.out.1.far_set 1 _ (by omega), HV.out.2.1.far_set 1 _ (by omega), HV.out.2.2.1.far_set 1 _ (by have := HV.out.2.2.2; omega), HV.out.2.2.2⟩
  case done =>
    rintro D W hD ⟨hi1, hi2, hi3⟩ hK
    have r0 := hi1.cell 0
    have r1 := hi1.cell 1
    have q0 := hi2.cell 0
    have q1 := hi2.cell 1
    have f0 := hi1.free 0
    have f1 := hi1.free 1
    simp only [List.getElem?_cons_succ, List.getElem?_cons_zero] at r0 r1 q0 q1
    gi_wp2
    have hW := (hi1.set_ 0 (.int .i64 (h : Int))).set_ 1 (.int .u64 (val (rootTo s (h + 1))))
    have hK2 := ((KeepsOthers.setCell W ⟨w.heap.size, 0, none⟩ (.int .i64 (h : Int))).trans (KeepsOthers.setCell _ ⟨w.heap.size, 1, none⟩ (.int .u64 (val (rootTo s (h + 1)))))).same D _ hK rfl
    have hb2 := (hi3.setCell (p := ⟨w.heap.size, 0, none⟩) (Nat.le_refl _) (.int .i64 (h : Int))).setCell (p := ⟨w.heap.size, 1, none⟩) (Nat.le_refl _) (.int .u64 (val (rootTo s (h + 1))))
    obtain ⟨W2, hW2⟩ : ∃ W2, (W.setCell ⟨w.heap.size, 0, none⟩ (.int .i64 (h : Int))).setCell ⟨w.heap.size, 1, none⟩ (.int .u64 (val (rootTo s (h + 1)))) = W2 := ⟨_, rfl⟩
    rw [hW2] at hW hK2 hb2 ⊢
    clear hW2 hK hi1 hi2 hi3 r0 r1 q0 q1 f0 f1
    refine ⟨by simp, .inl ⟨_, _, rfl, run_takeDeferred hK2, ?_⟩⟩
    have hW3 := hW.shut hK2
    have r0 := hW3.cell 0
    have r1 := hW3.cell 1
    simp only [List.set_cons_zero, List.set_cons_succ, List.getElem?_cons_succ, List.getElem?_cons_zero] at r0 r1
    refine ⟨.tuple #[.agg #[.int .i64 (h : Int), .int .u64 (val (treeN s h 0))], .int .i64 0], ?_, rfl, below_shut hb2 hK2 (by omega)⟩
    simp [results, Try.results10, go_sem, r0, r1, rootTo]
  case stop =>
    rintro D c k W _ h _
    exact h.elim
end Go.Proofs.Ythgahjihgoiklaa
