/- Leaves' numbers; the leaves of a tree, the level above a level. -/
import Derived.Test.YthgahjihgoiklaaTkA
import Derived.Deep.OwnRows
import Derived.Laws.OwnMore
namespace Go.Proofs.Ythgahjihgoiklaa
open Go.RowKit
set_option maxRecDepth 100000

/-- can a key of height h have leaf l? -/
def leafB (h l : Int) : Bool := hgtB h && decide (0 ≤ l) && decide (l < 2 ^ h.toNat)
theorem hgt_cases {h : Int} (hh : hgtB h = true) : h = 0 ∨ h = 1 ∨ h = 2 ∨ h = 3 ∨ h = 4 := by
  unfold hgtB at hh
  simp at hh
  omega
theorem leaf_lt {h l : Int} (hh : leafB h l = true) : hgtB h = true ∧ 0 ≤ l ∧ l < 2 ^ h.toNat := by
  unfold leafB at hh
  simp at hh
  exact ⟨hh.1.1, hh.1.2, hh.2⟩
theorem pow_le (h : Nat) (hh : h ≤ 4) : 1 ≤ 2 ^ h ∧ 2 ^ h ≤ 16 := by
  rcases (by omega : h = 0 ∨ h = 1 ∨ h = 2 ∨ h = 3 ∨ h = 4) with rfl | rfl | rfl | rfl | rfl <;> decide
theorem wrap_pow (h : Nat) (hh : h ≤ 4) : wrap64 ((2 : Int) ^ h) = ((2 ^ h : Nat) : Int) := by
  have h1 := pow_le h hh
  have e : (2 : Int) ^ h = ((2 ^ h : Nat) : Int) := by simp
  rw [e]
  unfold wrap64
  omega

theorem hasLeaf_no (h l : Int) (hh : hgtB h = false) (w : World) : Calls Try.prog 30 #[.int .i64 h, .int .i64 l] w fun e w' => e = .returned (.bool false) ∧ w = w' := by
  have HH := Lib.hid hh
  clear hh
  go_enter Try.func30, Try.ntmps30
  go_wp2_with fail
  refine (hgt_any h _).mono ?_
  rintro e w' ⟨rfl, rfl⟩
  rw [HH.out]
  go_wp2
  go_ret
  exact ⟨rfl, rfl⟩
theorem hasLeaf_neg (h l : Int) (hh : hgtB h = true) (hl : l < 0) (w : World) : Calls Try.prog 30 #[.int .i64 h, .int .i64 l] w fun e w' => e = .returned (.bool false) ∧ w = w' := by
  have HH := Lib.hid hh
  clear hh
  have hl' : ¬ 0 ≤ l := by omega
  go_enter Try.func30, Try.ntmps30
  go_wp2_with fail
  refine (hgt_any h _).mono ?_
  rintro e w' ⟨rfl, rfl⟩
  rw [HH.out]
  go_wp2
  go_ret
  exact ⟨rfl, rfl⟩
theorem hasLeaf_pos (h l : Int) (hh : hgtB h = true) (hl : 0 ≤ l) (b : Bool) (hb : decide (l < 2 ^ h.toNat) = b) (w : World) : Calls Try.prog 30 #[.int .i64 h, .int .i64 l] w fun e w' => e = .returned (.bool b) ∧ w = w' := by
  have HH := Lib.hid hh
  clear hh
  have HB := Lib.hid hb
  clear hb
  have h0 : 0 ≤ h := by rcases hgt_cases HH.out with h | h | h | h | h <;> omega
  obtain ⟨H, rfl⟩ := Int.eq_ofNat_of_zero_le h0
  have hH4 : H ≤ 4 := by rcases hgt_cases HH.out with h | h | h | h | h <;> omega
  obtain ⟨N, hN⟩ : ∃ N : Int, wrap64 (2 ^ H) = N := ⟨_, rfl⟩
  have hN2 : (2 : Int) ^ H = N := by rw [← hN, wrap_pow H hH4]; simp
  have HN2 := Lib.hid hN2
  clear hN2
  have hlt : Hid (decide (l < N) = b) := Lib.hid (by rw [← HN2.out]; have h := HB.out; rwa [Int.toNat_natCast] at h)
  clear HB
  go_enter Try.func30, Try.ntmps30
  go_wp2_with fail
  refine (hgt_any H _).mono ?_
  rintro e w' ⟨rfl, rfl⟩
  rw [HH.out]
  go_wp2
  go_ret
  exact ⟨congrArg (fun z => Ending.returned (Value.bool z)) hlt.out, rfl⟩
theorem hasLeaf_any (h l : Int) (w : World) : Calls Try.prog 30 #[.int .i64 h, .int .i64 l] w fun e w' => e = .returned (.bool (leafB h l)) ∧ w = w' := by
  unfold leafB
  cases hh : hgtB h with
  | false => simpa using hasLeaf_no h l hh w
  | true =>
    by_cases hl : 0 ≤ l
    · simpa [hl] using hasLeaf_pos h l hh hl _ rfl w
    · simpa [hl] using hasLeaf_neg h l hh (by omega) w

theorem wv_zeros (N : Nat) (f : Nat → BitVec 64) : madeCells #[Value.int .u64 0] N = (wv (fillTo 0#64 N f 0)).toArray := by
  have h : (madeCells #[Value.int .u64 0] N).toList = wv (fillTo 0#64 N f 0) := by
    rw [toList_madeCells_one]
    symm
    rw [List.eq_replicate_iff]
    refine ⟨by simp [wv, fillTo], fun b hb => ?_⟩
    simp only [wv, fillTo, Nat.not_lt_zero, if_false, List.map_map, List.mem_map] at hb
    obtain ⟨j, _, rfl⟩ := hb
    rfl
  rw [← h]
theorem make_words (N : Nat) (f : Nat → BitVec 64) (hN : N ≤ 1000000) (w : World) :
    (Instr.makeSlice 30 (.int .i64 (N : Int)) (.int .i64 (N : Int))).run Try.prog w = .ok (.slice (some ⟨w.heap.size, 0, none⟩) N N) (w.alloc (.cells (wv (fillTo 0#64 N f 0)).toArray 22)) := by
  rw [← wv_zeros]
  exact run_make_row' 30 22 (.int .u64 0) 8 Try.underlying30 infoW rfl .i64 .i64 N (by omega) (by omega) w
theorem fill_setN {w w' : World} {g B N : Nat} {t : TypeId} {f : Nat → BitVec 64} {k : Nat} (h : Cs w g t (wv (fillTo 0#64 N f k))) (hb : Below B w w') (hg : g < B) (hk : k < N) :
    w'.cell? ⟨g, k, none⟩ = some (.int .u64 0) ∧ w'.frozen? ⟨g, k, none⟩ = false ∧ Cs (w'.setCell ⟨g, k, none⟩ (.int .u64 (val (f k)))) g t (wv (fillTo 0#64 N f (k + 1))) := by
  have h' := h.below hb hg
  refine ⟨?_, h'.free k, ?_⟩
  · rw [h'.cell, wv, List.getElem?_map, fillTo_at _ _ _ _ _ hk, if_neg (by omega)]; rfl
  · have h2 := h'.set_ k (.int .u64 (val (f k)))
    rw [← wv_set, fillTo_set _ _ _ _ hk] at h2
    exact h2
set_option maxHeartbeats 1000000 in
theorem leaves_any (s : BitVec 64) (h : Nat) (hh : h ≤ 4) (w : World) :
    Calls Try.prog 46 #[.int .u64 (val s), .int .i64 h] w fun e w' => ∃ g, e = .returned (.slice (some ⟨g, 0, none⟩) (2 ^ h) (2 ^ h)) ∧ Cs w' g 22 (wv (levelF s h 0)) ∧ w.heap.size ≤ g ∧ Below w.heap.size w w' := by
  obtain ⟨N, hN⟩ : ∃ N : Nat, 2 ^ h = N := ⟨_, rfl⟩
  have hNb := pow_le h hh
  have hwr := wrap_pow h hh
  rw [hN] at hNb
  rw [hN] at hwr
  have hmk := fun w => make_words N (treeN s 0) (by omega) w
  have HL := Lib.hid (show levelF s h 0 = (List.range N).map (treeN s 0) by rw [levelF, Nat.sub_zero, hN])
  rw [HL.out, hN]
  clear hN
  go_enter Try.func46, Try.ntmps46
  go_wp2
  have HZ := Lib.hid (Cs.new w 22 (wv (fillTo 0#64 N (treeN s 0) 0)))
  clear hmk hwr
  go_loopw [12] (fun i wr => ∃ k : Nat, i = .int .i64 k ∧ k ≤ N ∧ Cs wr w.heap.size 22 (wv (fillTo 0#64 N (treeN s 0) k)) ∧ Below w.heap.size w wr) (fun i _ => N - (intOf i).toNat)
  case atStart => exact ⟨0, rfl, Nat.zero_le _, HZ.out, (Below.refl _ w).alloc (Nat.le_refl _) _⟩
  case round =>
    obtain ⟨k, rfl, hk, hC, hbk⟩ := hrel
    have hsz := hbk.size
    have hlt := hC.lt
    have HC := Lib.hid hC
    have HB := Lib.hid hbk
    clear hC hbk
    by_cases hkN : k < N
    · go_wp2_with fail
      refine (leaf_any s k _).mono ?_
      rintro e w1 ⟨rfl, hb1⟩
      have HB1 := Lib.hid (HB.out.trans (hb1.mono hsz))
      rw [show leafF s k = treeN s 0 k from rfl]
      obtain ⟨c1, c2, c3⟩ := fill_setN HC.out hb1 hlt hkN
      have HC3 := Lib.hid c3
      clear c3 hb1
      go_wp2
      go_roundw
      case rel => exact ⟨k + 1, by go_num, by omega, HC3.out, HB1.out.setCell (Nat.le_refl _) _⟩
      case measure => (simp [intOf] <;> omega)
    · have hk' : k = N := by omega
      subst hk'
      have hC := HC.out
      rw [fillTo_all] at hC
      go_wp2
      go_ret
      exact ⟨_, rfl, hC, Nat.le_refl _, HB.out⟩
end Go.Proofs.Ythgahjihgoiklaa
