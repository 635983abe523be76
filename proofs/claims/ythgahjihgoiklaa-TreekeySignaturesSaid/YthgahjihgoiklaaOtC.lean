/- ints: equal lists; Run and Secret of both. -/
import Derived.Test.YthgahjihgoiklaaOtB
namespace Go.Proofs.Ythgahjihgoiklaa
open Go.RowKit
set_option maxRecDepth 100000

/-- the value behind x at position p -/
def stepW (l c p : Int) (x : BitVec 64) : BitVec 64 := sipHash 1 (wsBytes [BitVec.ofInt 64 l, BitVec.ofInt 64 c, BitVec.ofInt 64 p, x])
def runE (l c : Int) (p : Nat) (x : BitVec 64) : Nat → BitVec 64
  | 0 => x
  | n + 1 => stepW l c ((p + n : Nat) : Int) (runE l c p x n)
theorem runE_add (l c : Int) (p : Nat) (x : BitVec 64) (a : Nat) : ∀ b, runE l c p x (a + b) = runE l c (p + a) (runE l c p x a) b
  | 0 => rfl
  | b + 1 => by
    rw [← Nat.add_assoc]
    simp only [runE]
    rw [runE_add l c p x a b, Nat.add_assoc]
def runF (l c f t : Int) (x : BitVec 64) : BitVec 64 := runE l c (max f 0).toNat x (min t 15 - max f 0).toNat
def secF (s : BitVec 64) (l c : Int) : BitVec 64 := sipMac s 1 (wsBytes [BitVec.ofInt 64 l, BitVec.ofInt 64 c])

theorem runE_step (l c : Int) (Q : Nat) (x : BitVec 64) (k : Nat) (z : Int) (hz : z = ((Q + k : Nat) : Int)) :
    sipHash 1 (wsBytes [BitVec.ofInt 64 l, BitVec.ofInt 64 c, BitVec.ofInt 64 z, runE l c Q x k]) = runE l c Q x (k + 1) := by
  subst hz; rfl
theorem runE_step0 (l c : Int) (x : BitVec 64) (k : Nat) :
    sipHash 1 (wsBytes [BitVec.ofInt 64 l, BitVec.ofInt 64 c, BitVec.ofNat 64 k, runE l c 0 x k]) = runE l c 0 x (k + 1) := by
  rw [← BitVec.ofInt_natCast]
  exact runE_step l c 0 x k k (by omega)
theorem runF_neg (l c f t : Int) (x : BitVec 64) (k : Nat) (hf : f < 0) (hk : k = 0 ∨ ((0 + k : Nat) : Int) ≤ min t 15) (h : ¬ ((0 + k : Nat) : Int) < min t 15) : runF l c f t x = runE l c 0 x k := by
  unfold runF
  rw [show (max f 0).toNat = 0 by omega, show (min t 15 - max f 0).toNat = k by omega]
theorem runF_pos (l c : Int) (F : Nat) (t : Int) (x : BitVec 64) (k : Nat) (hk : k = 0 ∨ ((F + k : Nat) : Int) ≤ min t 15) (h : ¬ ((F + k : Nat) : Int) < min t 15) : runF l c (F : Int) t x = runE l c F x k := by
  unfold runF
  rw [show (max (F : Int) 0).toNat = F by omega, show (min t 15 - max (F : Int) 0).toNat = k by omega]
theorem Ws.of_cs {w : World} {g : Nat} {t : TypeId} {ws : List (BitVec 64)} (h : Cs w g t (wv ws)) : Ws w (some ⟨g, 0, none⟩) ws.length ws :=
  ⟨rfl, fun i hi => ⟨_, rfl, by rw [addr_add, h.cell, wv_at ws i hi]⟩⟩
theorem Ws.new (w : World) (ws : List (BitVec 64)) (t : TypeId) : Ws (w.alloc (.cells (wv ws).toArray t)) (some ⟨w.heap.size, 0, none⟩) ws.length ws := Ws.of_cs (Cs.new w t (wv ws))

/-- Words of a new list: as bytes -/
theorem words_new (c : Array Value) (ws : List (BitVec 64)) (n : Nat) (w : World) (hc : c = (wv ws).toArray) (hn : ws.length = n) (h : n ≤ 1000) :
    Calls Try.prog 38 #[.slice (some ⟨w.heap.size, 0, none⟩) n n] (w.alloc (.cells c 22)) fun e w' => ∃ A cap, e = .returned (.slice A (8 * n) cap) ∧ 8 * n ≤ cap ∧ cap ≤ 9223372036854775807 ∧ Bytes w' A (8 * n) (wsBytes ws) ∧ Below w.heap.size w w' := by
  subst hc
  subst hn
  refine (words_any _ _ _ ws _ (Ws.new w ws _) (by omega)).mono ?_
  rintro e w' ⟨v, rfl, ho, hb⟩
  obtain ⟨A, cap, rfl, h1, h2, hB⟩ := own_bytes ho (wsBytes_rng _)
  exact ⟨A, cap, rfl, h1, h2, hB, ((Below.refl _ w).alloc (Nat.le_refl _) _).trans (hb.mono (by simp))⟩
theorem wordsR_new (c : Array Value) (ws : List (BitVec 64)) (n : Nat) (w : World) (hc : c = (wv ws).toArray) (hn : ws.length = n) (h : n ≤ 1000) :
    Calls Try.prog 39 #[.slice (some ⟨w.heap.size, 0, none⟩) n n] (w.alloc (.cells c 22)) fun e w' => ∃ A cap, e = .returned (.slice A (8 * n) cap) ∧ 8 * n ≤ cap ∧ cap ≤ 9223372036854775807 ∧ Bytes w' A (8 * n) (wsBytes ws) ∧ Below w.heap.size w w' := by
  subst hc
  subst hn
  refine (wordsR_any _ _ _ ws _ (Ws.new w ws _) (by omega)).mono ?_
  rintro e w' ⟨v, rfl, ho, hb⟩
  obtain ⟨A, cap, rfl, h1, h2, hB⟩ := own_bytes ho (wsBytes_rng _)
  exact ⟨A, cap, rfl, h1, h2, hB, ((Below.refl _ w).alloc (Nat.le_refl _) _).trans (hb.mono (by simp))⟩

theorem words4_new (p q : BitVec 64) (z : Int) (x : BitVec 64) (w : World) (h0 : 0 ≤ z) (h1 : z ≤ 18446744073709551615) :
    Calls Try.prog 38 #[.slice (some ⟨w.heap.size, 0, none⟩) 4 4] (w.alloc (.cells #[.int .u64 (val p), .int .u64 (val q), .int .u64 z, .int .u64 (val x)] 22)) fun e w' => ∃ A cap, e = .returned (.slice A 32 cap) ∧ 32 ≤ cap ∧ cap ≤ 9223372036854775807 ∧ Bytes w' A 32 (wsBytes [p, q, BitVec.ofInt 64 z, x]) ∧ Below w.heap.size w w' := by
  refine words_new _ [p, q, BitVec.ofInt 64 z, x] 4 w ?_ rfl (by omega)
  simp only [wv, List.map_cons, List.map_nil, ← val_of h0 h1]
theorem wordsR4_new (p q : BitVec 64) (z : Int) (x : BitVec 64) (w : World) (h0 : 0 ≤ z) (h1 : z ≤ 18446744073709551615) :
    Calls Try.prog 39 #[.slice (some ⟨w.heap.size, 0, none⟩) 4 4] (w.alloc (.cells #[.int .u64 (val p), .int .u64 (val q), .int .u64 z, .int .u64 (val x)] 22)) fun e w' => ∃ A cap, e = .returned (.slice A 32 cap) ∧ 32 ≤ cap ∧ cap ≤ 9223372036854775807 ∧ Bytes w' A 32 (wsBytes [p, q, BitVec.ofInt 64 z, x]) ∧ Below w.heap.size w w' := by
  refine wordsR_new _ [p, q, BitVec.ofInt 64 z, x] 4 w ?_ rfl (by omega)
  simp only [wv, List.map_cons, List.map_nil, ← val_of h0 h1]
set_option maxHeartbeats 1000000 in
theorem run_neg (l c : Int) (f : Int) (t : Int) (x : BitVec 64) (w : World) (hneg : f < 0) :
    Calls Try.prog 51 #[.int .i64 l, .int .i64 c, .int .i64 f, .int .i64 t, .int .u64 (val x)] w fun e w' => e = .returned (.int .u64 (val (runF l c f t x))) ∧ Below w.heap.size w w' := by
  go_enter Try.func51, Try.ntmps51
  go_wp2
  go_loopw [4, 11] (fun x' i wr => ∃ k : Nat, i = .int .i64 ((0 + k : Nat) : Int) ∧ x' = .int .u64 (val (runE l c 0 x k)) ∧ (k = 0 ∨ ((0 + k : Nat) : Int) ≤ min t 15) ∧ Below w.heap.size w wr) (fun _ i _ => (15 - intOf i).toNat)
  case atStart => exact ⟨0, rfl, rfl, .inl rfl, Below.refl _ _⟩
  case round =>
    obtain ⟨k, rfl, rfl, hk, hbk⟩ := hrel
    have hsz := hbk.size
    have HB := Lib.hid hbk
    clear hbk
    by_cases hlt : ((0 + k : Nat) : Int) < min t 15
    · go_wp2_with fail
      all_goals rw [val_wrap, val_wrap]
      all_goals refine (words4_new _ _ _ _ _ (by omega) (by omega)).mono ?_
      all_goals rintro e w1 ⟨A1, cp1, rfl, hc1, hc2, hB1, hb1⟩
      all_goals have HB1 := Lib.hid (HB.out.trans (hb1.mono hsz))
      all_goals go_wp2_with fail
      all_goals refine (hash_any 1 A1 _ cp1 _ _ hB1 hc1 hc2).mono ?_
      all_goals rintro e w2 ⟨rfl, hb2⟩
      all_goals have HB2 := Lib.hid (HB1.out.trans (hb2.mono HB1.out.size))
      all_goals go_wp2
      all_goals go_roundw
      all_goals first
        | exact ⟨k + 1, by go_num, by rw [runE_step0], .inr (by omega), HB2.out⟩
        | (simp [intOf] <;> omega)
    · go_wp2
      all_goals go_ret
      all_goals refine ⟨?_, HB.out⟩
      all_goals rw [runF_neg l c f t x k hneg hk (by omega)]
      all_goals rfl
set_option maxHeartbeats 1000000 in
theorem run_pos (l c : Int) (F : Nat) (t : Int) (x : BitVec 64) (w : World)  (hf : (F : Int) ≤ 9223372036854775807) :
    Calls Try.prog 51 #[.int .i64 l, .int .i64 c, .int .i64 (F : Int), .int .i64 t, .int .u64 (val x)] w fun e w' => e = .returned (.int .u64 (val (runF l c (F : Int) t x))) ∧ Below w.heap.size w w' := by
  go_enter Try.func51, Try.ntmps51
  go_wp2
  go_loopw [4, 11] (fun x' i wr => ∃ k : Nat, i = .int .i64 ((F + k : Nat) : Int) ∧ x' = .int .u64 (val (runE l c F x k)) ∧ (k = 0 ∨ ((F + k : Nat) : Int) ≤ min t 15) ∧ Below w.heap.size w wr) (fun _ i _ => (15 - intOf i).toNat)
  case atStart => exact ⟨0, rfl, rfl, .inl rfl, Below.refl _ _⟩
  case round =>
    obtain ⟨k, rfl, rfl, hk, hbk⟩ := hrel
    have hsz := hbk.size
    have HB := Lib.hid hbk
    clear hbk
    by_cases hlt : ((F + k : Nat) : Int) < min t 15
    · go_wp2_with fail
      all_goals rw [val_wrap, val_wrap]
      all_goals refine (words4_new _ _ _ _ _ (by omega) (by omega)).mono ?_
      all_goals rintro e w1 ⟨A1, cp1, rfl, hc1, hc2, hB1, hb1⟩
      all_goals have HB1 := Lib.hid (HB.out.trans (hb1.mono hsz))
      all_goals go_wp2_with fail
      all_goals refine (hash_any 1 A1 _ cp1 _ _ hB1 hc1 hc2).mono ?_
      all_goals rintro e w2 ⟨rfl, hb2⟩
      all_goals have HB2 := Lib.hid (HB1.out.trans (hb2.mono HB1.out.size))
      all_goals go_wp2
      all_goals go_roundw
      all_goals first
        | exact ⟨k + 1, by go_num, by rw [runE_step _ _ _ _ _ _ (by omega)], .inr (by omega), HB2.out⟩
        | (simp [intOf] <;> omega)
    · go_wp2
      all_goals go_ret
      all_goals refine ⟨?_, HB.out⟩
      all_goals rw [runF_pos l c F t x k hk (by omega)]
      all_goals rfl
theorem run_any (l c f t : Int) (x : BitVec 64) (w : World) (hf2 : f ≤ 9223372036854775807) :
    Calls Try.prog 51 #[.int .i64 l, .int .i64 c, .int .i64 f, .int .i64 t, .int .u64 (val x)] w fun e w' => e = .returned (.int .u64 (val (runF l c f t x))) ∧ Below w.heap.size w w' := by
  rcases Int.lt_or_le f 0 with h | h
  · exact run_neg l c f t x w h
  · obtain ⟨F, rfl⟩ := Int.eq_ofNat_of_zero_le h
    exact run_pos l c F t x w hf2

set_option maxHeartbeats 1000000 in
theorem hashR_any (d : Int) (A : Option Addr) (n cap : Nat) (zs : List Int) (w : World) (hb : Bytes w A n zs) (hn : n ≤ 1000000000000) :
    Calls Try.prog 59 #[.int .i64 d, .slice A n cap] w fun e w' => e = .returned (.int .u64 (val (sipHash d zs))) ∧ Below w.heap.size w w' := by
  go_enter Try.func59, Try.ntmps59
  go_wp2_with fail
  rw [val_wrap]
  refine (sumR_any (BitVec.ofInt 64 d) 0#64 A n cap zs _ hb hn).mono ?_
  rintro e w' ⟨rfl, hb'⟩
  go_wp2
  go_ret
  exact ⟨rfl, hb'⟩

set_option maxHeartbeats 1000000 in
theorem runR_neg (l c : Int) (f : Int) (t : Int) (x : BitVec 64) (w : World) (hneg : f < 0) :
    Calls Try.prog 54 #[.int .i64 l, .int .i64 c, .int .i64 f, .int .i64 t, .int .u64 (val x)] w fun e w' => e = .returned (.int .u64 (val (runF l c f t x))) ∧ Below w.heap.size w w' := by
  go_enter Try.func54, Try.ntmps54
  go_wp2
  go_loopw [4, 11] (fun x' i wr => ∃ k : Nat, i = .int .i64 ((0 + k : Nat) : Int) ∧ x' = .int .u64 (val (runE l c 0 x k)) ∧ (k = 0 ∨ ((0 + k : Nat) : Int) ≤ min t 15) ∧ Below w.heap.size w wr) (fun _ i _ => (15 - intOf i).toNat)
  case atStart => exact ⟨0, rfl, rfl, .inl rfl, Below.refl _ _⟩
  case round =>
    obtain ⟨k, rfl, rfl, hk, hbk⟩ := hrel
    have hsz := hbk.size
    have HB := Lib.hid hbk
    clear hbk
    by_cases hlt : ((0 + k : Nat) : Int) < min t 15
    · go_wp2_with fail
      all_goals rw [val_wrap, val_wrap]
      all_goals refine (wordsR4_new _ _ _ _ _ (by omega) (by omega)).mono ?_
      all_goals rintro e w1 ⟨A1, cp1, rfl, hc1, hc2, hB1, hb1⟩
      all_goals have HB1 := Lib.hid (HB.out.trans (hb1.mono hsz))
      all_goals go_wp2_with fail
      all_goals refine (hashR_any 1 A1 _ cp1 _ _ hB1 (by omega)).mono ?_
      all_goals rintro e w2 ⟨rfl, hb2⟩
      all_goals have HB2 := Lib.hid (HB1.out.trans (hb2.mono HB1.out.size))
      all_goals go_wp2
      all_goals go_roundw
      all_goals first
        | exact ⟨k + 1, by go_num, by rw [runE_step0], .inr (by omega), HB2.out⟩
        | (simp [intOf] <;> omega)
    · go_wp2
      all_goals go_ret
      all_goals refine ⟨?_, HB.out⟩
      all_goals rw [runF_neg l c f t x k hneg hk (by omega)]
      all_goals rfl
set_option maxHeartbeats 1000000 in
theorem runR_pos (l c : Int) (F : Nat) (t : Int) (x : BitVec 64) (w : World)  (hf : (F : Int) ≤ 9223372036854775807) :
    Calls Try.prog 54 #[.int .i64 l, .int .i64 c, .int .i64 (F : Int), .int .i64 t, .int .u64 (val x)] w fun e w' => e = .returned (.int .u64 (val (runF l c (F : Int) t x))) ∧ Below w.heap.size w w' := by
  go_enter Try.func54, Try.ntmps54
  go_wp2
  go_loopw [4, 11] (fun x' i wr => ∃ k : Nat, i = .int .i64 ((F + k : Nat) : Int) ∧ x' = .int .u64 (val (runE l c F x k)) ∧ (k = 0 ∨ ((F + k : Nat) : Int) ≤ min t 15) ∧ Below w.heap.size w wr) (fun _ i _ => (15 - intOf i).toNat)
  case atStart => exact ⟨0, rfl, rfl, .inl rfl, Below.refl _ _⟩
  case round =>
    obtain ⟨k, rfl, rfl, hk, hbk⟩ := hrel
    have hsz := hbk.size
    have HB := Lib.hid hbk
    clear hbk
    by_cases hlt : ((F + k : Nat) : Int) < min t 15
    · go_wp2_with fail
      all_goals rw [val_wrap, val_wrap]
      all_goals refine (wordsR4_new _ _ _ _ _ (by omega) (by omega)).mono ?_
      all_goals rintro e w1 ⟨A1, cp1, rfl, hc1, hc2, hB1, hb1⟩
      all_goals have HB1 := Lib.hid (HB.out.trans (hb1.mono hsz))
      all_goals go_wp2_with fail
      all_goals refine (hashR_any 1 A1 _ cp1 _ _ hB1 (by omega)).mono ?_
      all_goals rintro e w2 ⟨rfl, hb2⟩
      all_goals have HB2 := Lib.hid (HB1.out.trans (hb2.mono HB1.out.size))
      all_goals go_wp2
      all_goals go_roundw
      all_goals first
        | exact ⟨k + 1, by go_num, by rw [runE_step _ _ _ _ _ _ (by omega)], .inr (by omega), HB2.out⟩
        | (simp [intOf] <;> omega)
    · go_wp2
      all_goals go_ret
      all_goals refine ⟨?_, HB.out⟩
      all_goals rw [runF_pos l c F t x k hk (by omega)]
      all_goals rfl
theorem runR_any (l c f t : Int) (x : BitVec 64) (w : World) (hf2 : f ≤ 9223372036854775807) :
    Calls Try.prog 54 #[.int .i64 l, .int .i64 c, .int .i64 f, .int .i64 t, .int .u64 (val x)] w fun e w' => e = .returned (.int .u64 (val (runF l c f t x))) ∧ Below w.heap.size w w' := by
  rcases Int.lt_or_le f 0 with h | h
  · exact runR_neg l c f t x w h
  · obtain ⟨F, rfl⟩ := Int.eq_ofNat_of_zero_le h
    exact runR_pos l c F t x w hf2

end Go.Proofs.Ythgahjihgoiklaa
