import Derived.Test.YtepinmeidjlmmaaDoorE1
namespace Go.Proofs.YtepinmeidjlmmaaDoor
open Go.RowKit

/-- append(b, c...) of bytes, b the call's own -/
theorem app_row {ops : Array Oper} {rest : List Oper} {o : Oper} {a : Act} {Q : Exit → Act → World → Prop} {w : World} (hgd : o.guard = none) (s x : Operand)
    (ho : o.op = .call { callee := .builtin .append, args := #[s, x], argTypes := #[25, 25] })
    (base : Nat) (v : Value) (n : Nat) (xs : List Value) (base2 : Nat) (v2 : Value) (l : List Int) (hown : w.ownsRow base 5 1 v n xs) (hs : a.eval s = v)
    (h2 : w.ownsRow base2 5 1 v2 l.length (bv l)) (hx : a.eval x = v2) (hne : 0 < l.length) (hn : n ≤ 1000000) (hl : l.length ≤ 1000000) (hb : base ≤ w.heap.size)
    (h : ∀ v' w', w'.ownsRow base 5 1 v' (n + l.length) (xs ++ bv l) → Below base w w' → wpList Tryd.prog ops Q rest (a.put o.dst v') w') :
    wpList Tryd.prog ops Q (o :: rest) a w := by
  obtain ⟨i0, hi, hz0, hz1, hz2⟩ := info_parts info5
  rcases h2.2 with ⟨_, h0⟩ | ⟨g, cap, cur, rfl, _⟩
  · omega
  refine wpList_append_own _ hgd s x 25 ho base 5 i0 (.int .u8 0) 1 1 Tryd.underlying25 hi hz0 hz1 hz2 rfl (by decide) v n xs hs hown ⟨g, 0, none⟩ l.length cap (bv l) hx (by rw [bv_len]; omega) (fun j u hj => ?_) (fun u hu => ?_) (by unfold maxLen; omega) (by omega) hb ?_
  · have hjl : j < l.length := by
      rcases Nat.lt_or_ge j (bv l).length with h1 | h1
      · rwa [bv_len] at h1
      · rw [List.getElem?_eq_none h1] at hj; cases hj
    have e : (⟨g, 0, none⟩ : Addr).add j = ⟨g, j, none⟩ := by unfold Addr.add; split <;> simp_all
    rw [e, h2.cellAt _ (by omega)]
    exact hj
  · obtain ⟨z, _, rfl⟩ := List.mem_map.1 hu
    simp [Value.oneCell']
  intro v' w' h1 h2 _
  exact h v' w' h1 (below_of_grown hown hb h2)

theorem cell_new5 (w : World) (o1 o2 : Obj) (n : Int) : (((w.alloc o1).alloc o2).alloc (.cells #[.int .u64 n] 45)).cell? ⟨w.heap.size + 2, 0, none⟩ = some (.int .u64 n) := cell_of_block (heap_new5 w _ _ _) rfl
theorem own_new6 (w : World) (o1 : Obj) (x : Int) (o3 : Obj) : (((w.alloc o1).alloc (.cells #[.int .u8 x] 5)).alloc o3).ownsRow w.heap.size 5 1 (.slice (some ⟨w.heap.size + 1, 0, none⟩) 1 1) 1 (bv [x]) := by
  have h := row_lit (w.alloc o1) [x] #[.int .u8 x] 1 w.heap.size (by simp) rfl (by omega) rfl
  rw [show (w.alloc o1).heap.size = w.heap.size + 1 from by simp] at h
  exact h.alloc _

set_option maxRecDepth 100000 in
set_option maxHeartbeats 400000 in
theorem headR_1_8 (n : Int) (d : ByteArray) (w : World) (hn0 : 0 ≤ n) (h1 : 4294967296 ≤ n) : Calls Tryd.prog 54 #[itemV 1 n d] w (RowPost w.heap.size w (encHead 0 n)) := by
  rw [encHead8 h1]
  unfold itemV
  go_enter Tryd.func54, Tryd.ntmps54
  go_wp2_with (first | (go_at_call 77; refine (words1_any _ n _ (cell_new5 _ _ _ _) (by simp) hn0).mono ?_; rintro e w' ⟨v', rfl, ho, hb⟩) | (at_builtin; refine app_row rfl _ _ rfl w.heap.size _ 1 _ _ v' _ (own_below (own_new6 w _ _ _) hb) rfl ho rfl (by simp [beBytes_len]) (by omega) (by simp [beBytes_len]) (by have := hb.size; simp at this; omega) ?_; intro v2 w2 ho2 hb2))
  go_ret
  have hbw : Below w.heap.size w w' := ((((Below.refl _ w).alloc (Nat.le_refl _) _).alloc (by simp) _).alloc (by simp; omega) _).trans (hb.mono (by simp; omega))
  refine ⟨v2, rfl, ?_, hbw.trans hb2⟩
  have e : ∀ (m : Int) (l : List Int), (m :: l).length = 1 + l.length ∧ bv (m :: l) = bv [m] ++ bv l := fun m l => ⟨by simp; omega, rfl⟩
  rw [(e _ _).1, (e _ _).2]
  exact ho2

set_option maxRecDepth 100000 in
set_option maxHeartbeats 400000 in
theorem headR_2_8 (n : Int) (d : ByteArray) (w : World) (hn0 : 0 ≤ n) (h1 : 4294967296 ≤ n) : Calls Tryd.prog 54 #[itemV 2 n d] w (RowPost w.heap.size w (encHead 1 n)) := by
  rw [encHead8 h1]
  unfold itemV
  go_enter Tryd.func54, Tryd.ntmps54
  go_wp2_with (first | (go_at_call 77; refine (words1_any _ n _ (cell_new5 _ _ _ _) (by simp) hn0).mono ?_; rintro e w' ⟨v', rfl, ho, hb⟩) | (at_builtin; refine app_row rfl _ _ rfl w.heap.size _ 1 _ _ v' _ (own_below (own_new6 w _ _ _) hb) rfl ho rfl (by simp [beBytes_len]) (by omega) (by simp [beBytes_len]) (by have := hb.size; simp at this; omega) ?_; intro v2 w2 ho2 hb2))
  go_ret
  have hbw : Below w.heap.size w w' := ((((Below.refl _ w).alloc (Nat.le_refl _) _).alloc (by simp) _).alloc (by simp; omega) _).trans (hb.mono (by simp; omega))
  refine ⟨v2, rfl, ?_, hbw.trans hb2⟩
  have e : ∀ (m : Int) (l : List Int), (m :: l).length = 1 + l.length ∧ bv (m :: l) = bv [m] ++ bv l := fun m l => ⟨by simp; omega, rfl⟩
  rw [(e _ _).1, (e _ _).2]
  exact ho2

set_option maxRecDepth 100000 in
set_option maxHeartbeats 400000 in
theorem headR_5_8 (n : Int) (d : ByteArray) (w : World) (hn0 : 0 ≤ n) (h1 : 4294967296 ≤ n) : Calls Tryd.prog 54 #[itemV 5 n d] w (RowPost w.heap.size w (encHead 4 n)) := by
  rw [encHead8 h1]
  unfold itemV
  go_enter Tryd.func54, Tryd.ntmps54
  go_wp2_with (first | (go_at_call 77; refine (words1_any _ n _ (cell_new5 _ _ _ _) (by simp) hn0).mono ?_; rintro e w' ⟨v', rfl, ho, hb⟩) | (at_builtin; refine app_row rfl _ _ rfl w.heap.size _ 1 _ _ v' _ (own_below (own_new6 w _ _ _) hb) rfl ho rfl (by simp [beBytes_len]) (by omega) (by simp [beBytes_len]) (by have := hb.size; simp at this; omega) ?_; intro v2 w2 ho2 hb2))
  go_ret
  have hbw : Below w.heap.size w w' := ((((Below.refl _ w).alloc (Nat.le_refl _) _).alloc (by simp) _).alloc (by simp; omega) _).trans (hb.mono (by simp; omega))
  refine ⟨v2, rfl, ?_, hbw.trans hb2⟩
  have e : ∀ (m : Int) (l : List Int), (m :: l).length = 1 + l.length ∧ bv (m :: l) = bv [m] ++ bv l := fun m l => ⟨by simp; omega, rfl⟩
  rw [(e _ _).1, (e _ _).2]
  exact ho2

set_option maxRecDepth 100000 in
set_option maxHeartbeats 400000 in
theorem headR_6_8 (n : Int) (d : ByteArray) (w : World) (hn0 : 0 ≤ n) (h1 : 4294967296 ≤ n) : Calls Tryd.prog 54 #[itemV 6 n d] w (RowPost w.heap.size w (encHead 5 n)) := by
  rw [encHead8 h1]
  unfold itemV
  go_enter Tryd.func54, Tryd.ntmps54
  go_wp2_with (first | (go_at_call 77; refine (words1_any _ n _ (cell_new5 _ _ _ _) (by simp) hn0).mono ?_; rintro e w' ⟨v', rfl, ho, hb⟩) | (at_builtin; refine app_row rfl _ _ rfl w.heap.size _ 1 _ _ v' _ (own_below (own_new6 w _ _ _) hb) rfl ho rfl (by simp [beBytes_len]) (by omega) (by simp [beBytes_len]) (by have := hb.size; simp at this; omega) ?_; intro v2 w2 ho2 hb2))
  go_ret
  have hbw : Below w.heap.size w w' := ((((Below.refl _ w).alloc (Nat.le_refl _) _).alloc (by simp) _).alloc (by simp; omega) _).trans (hb.mono (by simp; omega))
  refine ⟨v2, rfl, ?_, hbw.trans hb2⟩
  have e : ∀ (m : Int) (l : List Int), (m :: l).length = 1 + l.length ∧ bv (m :: l) = bv [m] ++ bv l := fun m l => ⟨by simp; omega, rfl⟩
  rw [(e _ _).1, (e _ _).2]
  exact ho2

theorem headR_any (k n : Int) (d : ByteArray) (w : World) (hk0 : 1 ≤ k) (hk1 : k ≤ 8) (hn0 : 0 ≤ n) (h7 : k = 7 → n ≤ 1) (hd : d.size ≤ 1100) : Calls Tryd.prog 54 #[itemV k n d] w (RowPost w.heap.size w (headR k n d)) := by
  have hs : k = 1 ∨ k = 2 ∨ k = 3 ∨ k = 4 ∨ k = 5 ∨ k = 6 ∨ k = 7 ∨ k = 8 := by omega
  have r : n < 24 ∨ (24 ≤ n ∧ n < 256) ∨ (256 ≤ n ∧ n < 65536) ∨ (65536 ≤ n ∧ n < 4294967296) ∨ 4294967296 ≤ n := by omega
  have rd : (d.size : Int) < 24 ∨ (24 ≤ (d.size : Int) ∧ (d.size : Int) < 256) ∨ (256 ≤ (d.size : Int) ∧ (d.size : Int) < 65536) := by omega
  rcases hs with rfl | rfl | rfl | rfl | rfl | rfl | rfl | rfl
  · have e : headR 1 n d = encHead 0 n := by simp [headR, argN, hasDataB]
    rw [e]
    rcases r with h | ⟨h, h2⟩ | ⟨h, h2⟩ | ⟨h, h2⟩ | h
    · exact headR_1_s n d w hn0 h
    · exact headR_1_1 n d w hn0 h h2
    · exact headR_1_2 n d w hn0 h h2
    · exact headR_1_4 n d w hn0 h h2
    · exact headR_1_8 n d w hn0 h
  · have e : headR 2 n d = encHead 1 n := by simp [headR, argN, hasDataB]
    rw [e]
    rcases r with h | ⟨h, h2⟩ | ⟨h, h2⟩ | ⟨h, h2⟩ | h
    · exact headR_2_s n d w hn0 h
    · exact headR_2_1 n d w hn0 h h2
    · exact headR_2_2 n d w hn0 h h2
    · exact headR_2_4 n d w hn0 h h2
    · exact headR_2_8 n d w hn0 h
  · have e : headR 3 n d = encHead 2 (d.size : Int) := by simp [headR, argN, hasDataB]
    rw [e]
    rcases rd with h | ⟨h, h2⟩ | ⟨h, h2⟩
    · exact headR_3_s n d w hd h
    · exact headR_3_1 n d w hd h h2
    · exact headR_3_2 n d w hd h h2
  · have e : headR 4 n d = encHead 3 (d.size : Int) := by simp [headR, argN, hasDataB]
    rw [e]
    rcases rd with h | ⟨h, h2⟩ | ⟨h, h2⟩
    · exact headR_4_s n d w hd h
    · exact headR_4_1 n d w hd h h2
    · exact headR_4_2 n d w hd h h2
  · have e : headR 5 n d = encHead 4 n := by simp [headR, argN, hasDataB]
    rw [e]
    rcases r with h | ⟨h, h2⟩ | ⟨h, h2⟩ | ⟨h, h2⟩ | h
    · exact headR_5_s n d w hn0 h
    · exact headR_5_1 n d w hn0 h h2
    · exact headR_5_2 n d w hn0 h h2
    · exact headR_5_4 n d w hn0 h h2
    · exact headR_5_8 n d w hn0 h
  · have e : headR 6 n d = encHead 5 n := by simp [headR, argN, hasDataB]
    rw [e]
    rcases r with h | ⟨h, h2⟩ | ⟨h, h2⟩ | ⟨h, h2⟩ | h
    · exact headR_6_s n d w hn0 h
    · exact headR_6_1 n d w hn0 h h2
    · exact headR_6_2 n d w hn0 h h2
    · exact headR_6_4 n d w hn0 h h2
    · exact headR_6_8 n d w hn0 h
  · exact headR_7 n d w hn0 (h7 rfl)
  · exact headR_8 n d w

end Go.Proofs.YtepinmeidjlmmaaDoor
