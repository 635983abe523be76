/- The public word of a leaf, of both; signatures, of both. -/
import Derived.Test.YthgahjihgoiklaaOtE
namespace Go.Proofs.Ythgahjihgoiklaa
open Go.RowKit
set_option maxRecDepth 100000

theorem wv_set (l : List (BitVec 64)) (i : Nat) (x : BitVec 64) : wv (l.set i x) = (wv l).set i (.int .u64 (val x)) := by simp [wv, List.map_set]
def vals (f : Nat → BitVec 64) : List (BitVec 64) := (List.range 18).map f
theorem vals_len (f : Nat → BitVec 64) : (vals f).length = 18 := by simp [vals]
def endF (s : BitVec 64) (l : Int) (c : Nat) : BitVec 64 := runF l c 0 15 (secF s l c)
def leafF (s : BitVec 64) (l : Int) : BitVec 64 := pubF l (vals (endF s l))

theorem fill_set {w w' : World} {g B : Nat} {t : TypeId} {f : Nat → BitVec 64} {k : Nat} (h : Cs w g t (wv (fillTo 0#64 18 f k))) (hb : Below B w w') (hg : g < B) (hk : k < 18) :
    w'.cell? ⟨g, k, none⟩ = some (.int .u64 0) ∧ w'.frozen? ⟨g, k, none⟩ = false ∧ Cs (w'.setCell ⟨g, k, none⟩ (.int .u64 (val (f k)))) g t (wv (fillTo 0#64 18 f (k + 1))) := by
  have h' := h.below hb hg
  refine ⟨?_, h'.free k, ?_⟩
  · rw [h'.cell, wv, List.getElem?_map, fillTo_at _ _ _ _ _ hk, if_neg (by omega)]; rfl
  · have h2 := h'.set_ k (.int .u64 (val (f k)))
    rw [← wv_set, fillTo_set _ _ _ _ hk] at h2
    exact h2
theorem Cs.zeros (w : World) (t : TypeId) (f : Nat → BitVec 64) : Cs (w.alloc (.cells (wv (fillTo 0#64 18 f 0)).toArray t)) w.heap.size t (wv (fillTo 0#64 18 f 0)) := Cs.new w t _

set_option maxHeartbeats 1000000 in
theorem leaf_any (s : BitVec 64) (l : Int) (w : World) :
    Calls Try.prog 61 #[.int .u64 (val s), .int .i64 l] w fun e w' => e = .returned (.int .u64 (val (leafF s l))) ∧ Below w.heap.size w w' := by
  go_enter Try.func61, Try.ntmps61
  go_wp2
  have HZ := Lib.hid (Cs.zeros w 73 (endF s l))
  go_loopw [7] (fun i wr => ∃ k : Nat, i = .int .i64 k ∧ k ≤ 18 ∧ Cs wr w.heap.size 73 (wv (fillTo 0#64 18 (endF s l) k)) ∧ Below w.heap.size w wr) (fun i _ => 18 - (intOf i).toNat)
  case atStart => exact ⟨0, rfl, Nat.zero_le _, HZ.out, (Below.refl _ w).alloc (Nat.le_refl _) _⟩
  case round =>
    obtain ⟨k, rfl, hk, hC, hbk⟩ := hrel
    have hsz := hbk.size
    have hlt := hC.lt
    have HC := Lib.hid hC
    have HB := Lib.hid hbk
    clear hC hbk
    by_cases hk18 : k < 18
    · go_wp2_with fail
      refine (secret_any s l k _).mono ?_
      rintro e w1 ⟨rfl, hb1⟩
      have HB1 := Lib.hid (HB.out.trans (hb1.mono hsz))
      go_wp2_with fail
      refine (run_any l k 0 15 _ _ (by omega)).mono ?_
      rintro e w2 ⟨rfl, hb2⟩
      have hb12 := hb1.trans (hb2.mono hb1.size)
      have HB2 := Lib.hid (HB.out.trans (hb12.mono hsz))
      rw [show runF l k 0 15 (secF s l k) = endF s l k from rfl]
      obtain ⟨c1, c2, c3⟩ := fill_set HC.out hb12 hlt hk18
      have HC3 := Lib.hid c3
      clear c3 hb1 hb2 hb12
      go_wp2
      go_roundw
      case rel => exact ⟨k + 1, by go_num, by omega, HC3.out, HB2.out.setCell (Nat.le_refl _) _⟩
      case measure => (simp [intOf] <;> omega)
    · have hk' : k = 18 := by omega
      subst hk'
      have hC := HC.out
      rw [fillTo_all] at hC
      have HV := Lib.hid hC
      clear hC HC
      go_wp2_with (first
        | (refine wpList_load_cs (o := ⟨_, .load _ _, _, _, _, _⟩) rfl _ _ rfl _ rfl _ _ HV.out 18 22 Try.underlying73 (by rw [size_values, wv_len]; simp) ?_)
        | fail)
      refine (public_any l (vals (endF s l)) (vals_len _) _).mono ?_
      rintro e w3 ⟨rfl, hb3⟩
      go_wp2
      go_ret
      exact ⟨rfl, HB.out.trans (hb3.mono hsz)⟩

theorem vals_take (f : Nat → BitVec 64) (k : Nat) : (List.range k).map f ++ [f k] = (List.range (k + 1)).map f := by simp [List.range_succ]

set_option maxHeartbeats 1000000 in
theorem leafR_any (s : BitVec 64) (l : Int) (w : World) :
    Calls Try.prog 48 #[.int .u64 (val s), .int .i64 l] w fun e w' => e = .returned (.int .u64 (val (leafF s l))) ∧ Below w.heap.size w w' := by
  go_enter Try.func48, Try.ntmps48
  go_wp2
  go_loopw [5, 6] (fun v i wr => ∃ k : Nat, i = .int .i64 k ∧ k ≤ 18 ∧ wr.ownsRow w.heap.size 22 1 v k (wv ((List.range k).map (endF s l))) ∧ Below w.heap.size w wr) (fun _ i _ => 18 - (intOf i).toNat)
  case atStart => exact ⟨0, rfl, Nat.zero_le _, World.ownsRow_nil w _ _ _, Below.refl _ _⟩
  case round =>
    obtain ⟨k, rfl, hk, hO, hbk⟩ := hrel
    have hsz := hbk.size
    have HO := Lib.hid hO
    have HB := Lib.hid hbk
    clear hO hbk
    by_cases hk18 : k < 18
    · go_wp2_with fail
      refine (secretR_any s l k _).mono ?_
      rintro e w1 ⟨rfl, hb1⟩
      go_wp2_with fail
      refine (runR_any l k 0 15 _ _ (by omega)).mono ?_
      rintro e w2 ⟨rfl, hb2⟩
      have hb12 := hb1.trans (hb2.mono hb1.size)
      have HB2 := Lib.hid (HB.out.trans (hb12.mono hsz))
      have HO2 := Lib.hid (owns_below HO.out hb12)
      rw [show runF l k 0 15 (secF s l k) = endF s l k from rfl]
      have hsz2 := HB2.out.size
      clear hb1 hb2 hb12
      go_wp2_with (first
        | (at_builtin; refine app_words rfl _ _ rfl w.heap.size _ k _ (some ⟨w2.heap.size, 0, none⟩) 1 1 [endF s l k] (HO2.out.alloc _) rfl (Ws.one w2 _) rfl (by omega) (by simp; omega) ?_; intro v3 w3 ho3 hb3)
        | fail)
      rw [vals_take] at ho3
      go_roundw
      case rel => exact ⟨k + 1, by go_num, by omega, ho3, (HB2.out.alloc hsz2 _).trans hb3⟩
      case measure => (simp [intOf] <;> omega)
    · have hk' : k = 18 := by omega
      subst hk'
      obtain ⟨A, c, rfl, hW⟩ := own_words HO.out
      go_wp2_with fail
      refine (ends_any l (vals (endF s l)) A 18 c _ hW (by omega) (by omega)).mono ?_
      rintro e w3 ⟨rfl, hb3⟩
      go_wp2
      go_ret
      exact ⟨rfl, HB.out.trans (hb3.mono hsz)⟩
end Go.Proofs.Ythgahjihgoiklaa
