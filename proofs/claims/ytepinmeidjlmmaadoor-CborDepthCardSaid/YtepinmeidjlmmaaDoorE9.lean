import Derived.Test.YtepinmeidjlmmaaDoorE8
namespace Go.Proofs.YtepinmeidjlmmaaDoor
open Go.RowKit

set_option maxRecDepth 100000 in
set_option maxHeartbeats 400000 in
theorem walk_leaf (b off len cap : Nat) (at_ dep : Nat) (key : Bool) (bf : ByteArray) (k n : Int) (d : ByteArray) (w : World) (h : at_ < len) (hlen : len ≤ 1000000000000000) (ht : Tabs w) (hn0 : 0 ≤ n)
    (q0 : w.cell? ⟨b, off + at_ * 3, none⟩ = some (.int .i64 k)) (q1 : w.cell? ⟨b, off + at_ * 3 + 1, none⟩ = some (.int .u64 n)) (q2 : w.cell? ⟨b, off + at_ * 3 + 2, none⟩ = some (.string d))
    (hr : checkRE at_ dep key bf k n d = 0) (h5 : (k == 5) = false) (h6 : (k == 6) = false) :
    Calls Tryd.prog 42 #[.slice (some ⟨b, off, none⟩) len cap, .int .i64 at_, .int .i64 dep, .bool key, .string bf] w (WalkPost w (at_ + 1, 0)) := by
  have h1 : (at_ : Int) < (len : Int) := by omega
  have h2 : (0 : Int) ≤ (at_ : Int) := by omega
  have HB0 := Lib.hid ((Below.refl w.heap.size w).alloc (Nat.le_refl _) (.cells #[.int .i64 k, .int .u64 n, .string d] 58))
  have HK := Lib.hid (fun (W : World) (hW : Below w.heap.size w W) => show Calls Tryd.prog 61 #[itemV k n d, .int .i64 at_, .int .i64 dep, .bool key, .string bf] W (CheckPost W 0) by have := checkR_any at_ dep key bf k n d W hn0 (ht.later hW); rwa [hr] at this)
  have HS0 := Lib.hid (BoxS.mk' (heap_new w (.cells #[.int .i64 k, .int .u64 n, .string d] 58)))
  clear ht hr
  by_cases hn : 0 < n
  · go_enter Tryd.func42, Tryd.ntmps42
    go_wp2_with (go_at_call 61; refine (HK.out _ (by exact HB0.out)).mono ?_; rintro e w1 ⟨rfl, hb1⟩; obtain ⟨c1, c2, c3, c4⟩ := BoxS.step HS0.out hb1)
    refine wp_loop_rounds 1 ?_
    rw [rounds_succ]
    go_wp2
    go_ret2
    exact ⟨rfl, below_aft HB0.out hb1⟩
  · go_enter Tryd.func42, Tryd.ntmps42
    go_wp2_with (go_at_call 61; refine (HK.out _ (by exact HB0.out)).mono ?_; rintro e w1 ⟨rfl, hb1⟩; obtain ⟨c1, c2, c3, c4⟩ := BoxS.step HS0.out hb1)
    refine wp_loop_rounds 1 ?_
    rw [rounds_succ]
    go_wp2
    go_ret2
    exact ⟨rfl, below_aft HB0.out hb1⟩

set_option maxRecDepth 100000 in
set_option maxHeartbeats 1000000 in
theorem walk_array (W2 : Nat → Bool → ByteArray → Nat × Int) (l : List It) (b off len cap : Nat) (at_ dep N : Nat) (key : Bool) (bf : ByteArray) (d : ByteArray) (w : World) (h : at_ < len) (hlen : len ≤ 1000000000000000) (ht : Tabs w) (hd9 : dep ≤ 10)
    (q0 : w.cell? ⟨b, off + at_ * 3, none⟩ = some (.int .i64 5)) (q1 : w.cell? ⟨b, off + at_ * 3 + 1, none⟩ = some (.int .u64 N)) (q2 : w.cell? ⟨b, off + at_ * 3 + 2, none⟩ = some (.string d))
    (hr : checkRE at_ dep key bf 5 N d = 0) (hN : N ≤ 1000)
    (hIH : ∀ (W : World) (a2 : Nat) (k2 : Bool) (b2 : ByteArray), Below w.heap.size w W → Calls Tryd.prog 42 #[.slice (some ⟨b, off, none⟩) len cap, .int .i64 a2, .int .i64 ((dep : Int) + 1), .bool k2, .string b2] W (WalkPost W (W2 a2 k2 b2))) :
    Calls Tryd.prog 42 #[.slice (some ⟨b, off, none⟩) len cap, .int .i64 at_, .int .i64 dep, .bool key, .string bf] w (WalkPost w (loopE W2 l false N (at_ + 1) ⟨#[]⟩)) := by
  have h1 : (at_ : Int) < (len : Int) := by omega
  have h2 : (0 : Int) ≤ (at_ : Int) := by omega
  have HB0 := Lib.hid ((Below.refl w.heap.size w).alloc (Nat.le_refl _) (.cells #[.int .i64 5, .int .u64 N, .string d] 58))
  have HK := Lib.hid (fun (W : World) (hW : Below w.heap.size w W) => show Calls Tryd.prog 61 #[itemV 5 N d, .int .i64 at_, .int .i64 dep, .bool key, .string bf] W (CheckPost W 0) by have := checkR_any at_ dep key bf 5 N d W (by omega) (ht.later hW); rwa [hr] at this)
  have HS0 := Lib.hid (BoxS.mk' (heap_new w (.cells #[.int .i64 5, .int .u64 N, .string d] 58)))
  have HIH := Lib.hid hIH
  clear ht hr hIH
  go_enter Tryd.func42, Tryd.ntmps42
  go_wp2_with (go_at_call 61; refine (HK.out _ (by exact HB0.out)).mono ?_; rintro e w1 ⟨rfl, hb1⟩)
  have HS1 := Lib.hid (BoxS.step HS0.out hb1)
  have HB1 := Lib.hid (below_aft HB0.out hb1)
  have hlt1 : w.heap.size < w1.heap.size := by have := hb1.size; simp at this; omega
  have HL1 := Lib.hid hlt1
  clear hb1 hlt1
  go_loopw [14, 15, 16] (fun nx la i wr => ∃ j a2 : Nat, j ≤ N ∧ i = .int .u64 j ∧ nx = .int .i64 a2 ∧ la = .string ⟨#[]⟩ ∧ Below w.heap.size w wr ∧ BoxS w.heap.size 5 N d wr ∧ w.heap.size < wr.heap.size ∧ loopE W2 l false (N - j) a2 ⟨#[]⟩ = loopE W2 l false N (at_ + 1) ⟨#[]⟩) (fun _ _ i _ => N - (intOf i).toNat)
  case atStart => exact ⟨0, at_ + 1, by omega, rfl, by go_num, rfl, HB1.out, HS1.out, HL1.out, rfl⟩
  case round =>
    obtain ⟨j, a2, hj, rfl, rfl, rfl, hbr, hsr, hlr, hgo⟩ := hrel
    have HBR := Lib.hid hbr
    have HSR := Lib.hid hsr
    have HGO := Lib.hid hgo
    obtain ⟨c1, c2, c3, c4⟩ := hsr
    clear hbr hgo
    by_cases hlt : j < N
    · obtain ⟨N2, hN2⟩ : ∃ N2, N - j = N2 + 1 := ⟨N - j - 1, by omega⟩
      have hstep := HGO.out
      rw [hN2] at hstep
      have HSTEP := Lib.hid hstep
      clear hstep
      generalize hres : W2 a2 false ⟨#[]⟩ = res at *
      obtain ⟨a3, e3⟩ := res
      have hC := HIH.out wr a2 false ⟨#[]⟩ HBR.out
      rw [hres] at hC
      have HC := Lib.hid hC
      clear hC
      by_cases he : e3 = 0
      · subst he
        go_wp2_with (go_at_call 42; refine HC.out.mono ?_; rintro e w3 ⟨rfl, hb3⟩)
        go_roundw
        case rel =>
          refine ⟨j + 1, a3, by omega, by go_num, rfl, rfl, below_aft HBR.out hb3, BoxS.stepB HSR.out hb3 hlr, Nat.lt_of_lt_of_le hlr hb3.size, ?_⟩
          rw [← HSTEP.out, show N - (j + 1) = N2 from by omega]
          show _ = loopE W2 l false (N2 + 1) a2 ⟨#[]⟩
          simp [loopE, hres]
        case measure => simp [intOf]; omega
      · go_wp2_with (go_at_call 42; refine HC.out.mono ?_; rintro e w3 ⟨rfl, hb3⟩)
        go_ret2
        refine ⟨?_, below_aft HBR.out hb3⟩
        rw [← HSTEP.out]
        simp [loopE, hres, he]
    · obtain rfl : j = N := by omega
      go_wp2
      go_ret2
      refine ⟨?_, HBR.out⟩
      rw [← HGO.out]
      simp [loopE]

end Go.Proofs.YtepinmeidjlmmaaDoor
