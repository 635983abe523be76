/- Joined: Z2, Z3, Z4. -/
import Derived.Test.YtepinmeidjlmmaaDoorR16
/- The reference's head: a wide argument of one or two bytes. -/
namespace Go.Proofs.YtepinmeidjlmmaaDoor
open Go.RowKit
set_option maxRecDepth 100000

set_option maxHeartbeats 1000000 in
theorem hdr_wshort1 (p : Nat) (S : ByteArray) (a : Nat) (v : Value) (w : World) (h : Rr w p S a v) (ha : a < S.size) (x m : Int) (hx : (dataI S).getD a 0 = x) (hm : x / 32 = m) (hl : x % 32 = 24) (h6 : m ≤ 5) (hN : S.size < a + 1 + 1) :
    Calls Tryd.prog 67 #[.pointer (some ⟨p, 0, none⟩)] w (HdP p S v (0, 0, 1, a) w) := by
  have hp := h.lt
  have hix := fun W => idx_str (S := S) ha hx W
  have H := Lib.hid h
  clear h
  obtain ⟨q0, q1⟩ := byte_rng hx
  have han := and31 x q0 q1
  rw [hl] at han
  have m0 : 0 ≤ m ∧ m ≤ 7 := by omega
  have y1 : (x == 244) = false := by simp; omega
  have y2 : (x == 245) = false := by simp; omega
  have y3 : (x == 246) = false := by simp; omega
  clear hx hl
  have h5 : ¬ 5 < m := by omega
  obtain ⟨M, rfl⟩ := Int.eq_ofNat_of_zero_le m0.1
  go_enter Tryd.func67, Tryd.ntmps67
  go_wp2_with fail
  refine gen_world (fun W => Rr W p S a v ∧ Below w.heap.size w W ∧ Box W w.heap.size 0 0 ⟨#[]⟩) ⟨H.out.below ((Below.refl _ w).alloc (Nat.le_refl _) _) hp, (Below.refl _ w).alloc (Nat.le_refl _) _, Box.new w 0 0 ⟨#[]⟩⟩ ?_
  rintro W ⟨hR, hB, hX⟩
  have c0 := hR.c0
  have c1 := hR.c1
  have g1 := hR.fz 1
  obtain ⟨b0, b1, b2, f0, f1, f2⟩ := hX.cells
  have HB := Lib.hid (Rx.of_below (p := p) hB)
  have HX := Lib.hid hX
  have HR := Lib.hid hR
  have hne : w.heap.size ≠ p := by omega
  have hpn : p ≠ w.heap.size := by omega
  clear hR hX hB
  go_region
  go_wp2
  go_region
  go_wp2
  go_region
  go_wp2
  exact hd_end rfl rfl rfl (HX.out.set3 (k := 0) (n := 0) (d := ⟨#[]⟩)) ⟨rfl, (((HB.out.setNew (Nat.le_refl _) _ _).setNew (Nat.le_refl _) _ _).setNew (Nat.le_refl _) _ _).drew.drew.drew, fun h => by cases h⟩

set_option maxHeartbeats 1000000 in
theorem hdr_wide1 (p : Nat) (S : ByteArray) (a : Nat) (v : Value) (w : World) (h : Rr w p S a v) (ha : a < S.size) (hs : S.size ≤ 9000000000000000) (x m : Int) (hx : (dataI S).getD a 0 = x) (hm : x / 32 = m) (hl : x % 32 = 24) (h6 : m ≤ 5) (hN : a + 1 + 1 ≤ S.size) (nv : Int) (hw : widN (dataI S) a 1 = nv) (hv : 24 ≤ nv) :
    Calls Tryd.prog 67 #[.pointer (some ⟨p, 0, none⟩)] w (HdP p S v (1 + m, nv, 0, a + 1 + 1) w) := by
  have hp := h.lt
  have hix := fun W => idx_str (S := S) ha hx W
  have H := Lib.hid h
  clear h
  obtain ⟨q0, q1⟩ := byte_rng hx
  have han := and31 x q0 q1
  rw [hl] at han
  have m0 : 0 ≤ m ∧ m ≤ 7 := by omega
  have y1 : (x == 244) = false := by simp; omega
  have y2 : (x == 245) = false := by simp; omega
  have y3 : (x == 246) = false := by simp; omega
  clear hx hl
  have h5 : ¬ 5 < m := by omega
  obtain ⟨M, rfl⟩ := Int.eq_ofNat_of_zero_le m0.1
  go_enter Tryd.func67, Tryd.ntmps67
  go_wp2_with fail
  refine gen_world (fun W => Rr W p S a v ∧ Below w.heap.size w W ∧ Box W w.heap.size 0 0 ⟨#[]⟩) ⟨H.out.below ((Below.refl _ w).alloc (Nat.le_refl _) _) hp, (Below.refl _ w).alloc (Nat.le_refl _) _, Box.new w 0 0 ⟨#[]⟩⟩ ?_
  rintro W ⟨hR, hB, hX⟩
  have c0 := hR.c0
  have c1 := hR.c1
  have g1 := hR.fz 1
  obtain ⟨b0, b1, b2, f0, f1, f2⟩ := hX.cells
  have HB := Lib.hid (Rx.of_below (p := p) hB)
  have HX := Lib.hid hX
  have HR := Lib.hid hR
  have hne : w.heap.size ≠ p := by omega
  have hpn : p ≠ w.heap.size := by omega
  clear hR hX hB
  go_region
  go_wp2
  go_region
  go_wp2
  go_region
  go_wp2_with fail
  refine gen_world (fun W => Rr W p S a v ∧ Rx w.heap.size p w W ∧ Box W w.heap.size 0 0 ⟨#[]⟩) ⟨HR.out, HB.out.drew.drew.drew, HX.out⟩ ?_
  clear c0 c1 g1 b0 b1 b2 f0 f1 f2 HB HX HR
  rintro W ⟨hR, hB, hX⟩
  have c0 := hR.c0
  have c1 := hR.c1
  have g1 := hR.fz 1
  obtain ⟨b0, b1, b2, f0, f1, f2⟩ := hX.cells
  have hsw := hB.size
  have hBlt := hX.lt
  have hpW := hR.lt
  have HB := Lib.hid hB
  have HX := Lib.hid hX
  have HR := Lib.hid hR
  clear hR hX hB
  have hlen : ((dataI S).drop (a + 1)).length = S.size - (a + 1) := by rw [List.length_drop, dataI_len]
  obtain ⟨ys, hys⟩ : ∃ ys, ((dataI S).drop (a + 1)).take 1 = ys := ⟨_, rfl⟩
  have hyl : ys.length = 1 := by rw [← hys, List.length_take, hlen]; omega
  have hyr : ∀ z ∈ ys, 0 ≤ z ∧ z ≤ 255 := fun z hz => by rw [← hys] at hz; exact dataI_rng S z (List.mem_of_mem_drop (List.mem_of_mem_take hz))
  have hyx : ∀ k : Nat, k < 1 → ∀ W, (Instr.index 9 (.string S) (.int .i64 ((a : Int) + 1 + (k : Int)))).run Tryd.prog W = .ok (.int .u8 (ys.getD k 0)) W := fun k hk W => by
    have h := idx_str (S := S) (i := a + 1 + k) (x := ys.getD k 0) (by omega) (by rw [← hys]; simp [List.getD, hk]) W
    rw [show ((a + 1 + k : Nat) : Int) = (a : Int) + 1 + (k : Int) by omega] at h
    exact h
  have HYX := Lib.hid hyx
  have HYR := Lib.hid hyr
  have HYS := Lib.hid hys
  have HYL := Lib.hid hyl
  clear hyx hyr hys hyl hlen
  go_loopw [8, 9] (fun n i wr => ∃ k : Nat, k ≤ 1 ∧ i = .int .i64 k ∧ n = .int .u64 (beTo ys k) ∧ Rr wr p S a v ∧ Rx w.heap.size p w wr ∧ Box wr w.heap.size 0 0 ⟨#[]⟩) (fun _ i _ => 1 - (intOf i).toNat)
  case atStart => exact ⟨0, Nat.zero_le _, rfl, rfl, HR.out, HB.out, HX.out⟩
  case round =>
    obtain ⟨k, hk, rfl, rfl, hR, hB, hX⟩ := hrel
    have c0 := hR.c0
    have c1 := hR.c1
    have hsw := hB.size
    have hBlt := hX.lt
    have hpW := hR.lt
    have HB2 := Lib.hid hB
    have HX2 := Lib.hid hX
    have HR2 := Lib.hid hR
    by_cases hkS : k < 1
    · have hixk := HYX.out k hkS
      have hbd := beTo_bd ys HYR.out k (by rw [HYL.out]; exact hk)
      have hpow : (256 : Int) ^ k ≤ 256 ^ 7 := by
        have : k ≤ 7 := by omega
        have h9 := Nat.pow_le_pow_right (n := 256) (by decide) this
        have h10 : ((256 ^ k : Nat) : Int) ≤ ((256 ^ 7 : Nat) : Int) := by omega
        simpa using h10
      have hby := HYR.out (ys.getD k 0) (by simp only [List.getD]; rw [List.getElem?_eq_getElem (by rw [HYL.out]; exact hkS)]; exact List.getElem_mem _)
      have hsu := beTo_succ (ys := ys) (k := k) (by rw [HYL.out]; exact hkS)
      have hor := or_step (beTo ys k) (ys.getD k 0) hbd.1 (by omega) hby.1 hby.2
      rw [← hsu] at hor
      obtain ⟨n2, hn2⟩ : ∃ n2, beTo ys (k + 1) = n2 := ⟨_, rfl⟩
      rw [hn2] at hor
      have HN2 := Lib.hid hn2
      generalize ys.getD k 0 = y at *
      have hyw : IntKind.u64.wrap y = y := by rw [IntKind.wrap_u64]; omega
      have HYW := Lib.hid hyw
      have HOR := Lib.hid hor
      clear hR hB hX hbd hpow hby hsu hn2 hyw hor
      go_wp2
      go_region
      go_wp2
      go_roundw
      case rel => exact ⟨k + 1, by omega, by go_num, by rw [HN2.out, HYW.out, HOR.out], HR2.out, HB2.out.drew, HX2.out⟩
      case measure => (simp [intOf] <;> omega)
    · have hkE : k = 1 := by omega
      subst hkE
      have hnv : beTo ys 1 = nv := by rw [← HYS.out]; exact hw
      rw [hnv]
      clear hnv hR hB hX hix hm han hw
      have hF := hd_fin HR2.out HX2.out HB2.out hne (Nat.le_refl _) (a + 1 + 1) ((a : Int) + 2) (by omega)
      have hK := fun z o1 => kinds_at M (by omega) p z o1 wr
      have g1 := HR2.out.fz 1
      obtain ⟨b0, b1, b2, f0, f1, f2⟩ := HX2.out.cells
      have HF := Lib.hid hF
      clear hF
      go_wp2
      exact hd_end rfl rfl rfl (HF.out _ _ _ _ _).1 ⟨rfl, (HF.out _ _ _ _ _).2.1, fun _ => (HF.out _ _ _ _ _).2.2⟩

set_option maxHeartbeats 1000000 in
theorem hdr_wbad1 (p : Nat) (S : ByteArray) (a : Nat) (v : Value) (w : World) (h : Rr w p S a v) (ha : a < S.size) (hs : S.size ≤ 9000000000000000) (x m : Int) (hx : (dataI S).getD a 0 = x) (hm : x / 32 = m) (hl : x % 32 = 24) (h6 : m ≤ 5) (hN : a + 1 + 1 ≤ S.size) (nv : Int) (hw : widN (dataI S) a 1 = nv) (hv : nv < 24) :
    Calls Tryd.prog 67 #[.pointer (some ⟨p, 0, none⟩)] w (HdP p S v (0, 0, 2, a) w) := by
  have hp := h.lt
  have hix := fun W => idx_str (S := S) ha hx W
  have H := Lib.hid h
  clear h
  obtain ⟨q0, q1⟩ := byte_rng hx
  have han := and31 x q0 q1
  rw [hl] at han
  have m0 : 0 ≤ m ∧ m ≤ 7 := by omega
  have y1 : (x == 244) = false := by simp; omega
  have y2 : (x == 245) = false := by simp; omega
  have y3 : (x == 246) = false := by simp; omega
  clear hx hl
  have h5 : ¬ 5 < m := by omega
  obtain ⟨M, rfl⟩ := Int.eq_ofNat_of_zero_le m0.1
  go_enter Tryd.func67, Tryd.ntmps67
  go_wp2_with fail
  refine gen_world (fun W => Rr W p S a v ∧ Below w.heap.size w W ∧ Box W w.heap.size 0 0 ⟨#[]⟩) ⟨H.out.below ((Below.refl _ w).alloc (Nat.le_refl _) _) hp, (Below.refl _ w).alloc (Nat.le_refl _) _, Box.new w 0 0 ⟨#[]⟩⟩ ?_
  rintro W ⟨hR, hB, hX⟩
  have c0 := hR.c0
  have c1 := hR.c1
  have g1 := hR.fz 1
  obtain ⟨b0, b1, b2, f0, f1, f2⟩ := hX.cells
  have HB := Lib.hid (Rx.of_below (p := p) hB)
  have HX := Lib.hid hX
  have HR := Lib.hid hR
  have hne : w.heap.size ≠ p := by omega
  have hpn : p ≠ w.heap.size := by omega
  clear hR hX hB
  go_region
  go_wp2
  go_region
  go_wp2
  go_region
  go_wp2_with fail
  refine gen_world (fun W => Rr W p S a v ∧ Rx w.heap.size p w W ∧ Box W w.heap.size 0 0 ⟨#[]⟩) ⟨HR.out, HB.out.drew.drew.drew, HX.out⟩ ?_
  clear c0 c1 g1 b0 b1 b2 f0 f1 f2 HB HX HR
  rintro W ⟨hR, hB, hX⟩
  have c0 := hR.c0
  have c1 := hR.c1
  have g1 := hR.fz 1
  obtain ⟨b0, b1, b2, f0, f1, f2⟩ := hX.cells
  have hsw := hB.size
  have hBlt := hX.lt
  have hpW := hR.lt
  have HB := Lib.hid hB
  have HX := Lib.hid hX
  have HR := Lib.hid hR
  clear hR hX hB
  have hlen : ((dataI S).drop (a + 1)).length = S.size - (a + 1) := by rw [List.length_drop, dataI_len]
  obtain ⟨ys, hys⟩ : ∃ ys, ((dataI S).drop (a + 1)).take 1 = ys := ⟨_, rfl⟩
  have hyl : ys.length = 1 := by rw [← hys, List.length_take, hlen]; omega
  have hyr : ∀ z ∈ ys, 0 ≤ z ∧ z ≤ 255 := fun z hz => by rw [← hys] at hz; exact dataI_rng S z (List.mem_of_mem_drop (List.mem_of_mem_take hz))
  have hyx : ∀ k : Nat, k < 1 → ∀ W, (Instr.index 9 (.string S) (.int .i64 ((a : Int) + 1 + (k : Int)))).run Tryd.prog W = .ok (.int .u8 (ys.getD k 0)) W := fun k hk W => by
    have h := idx_str (S := S) (i := a + 1 + k) (x := ys.getD k 0) (by omega) (by rw [← hys]; simp [List.getD, hk]) W
    rw [show ((a + 1 + k : Nat) : Int) = (a : Int) + 1 + (k : Int) by omega] at h
    exact h
  have HYX := Lib.hid hyx
  have HYR := Lib.hid hyr
  have HYS := Lib.hid hys
  have HYL := Lib.hid hyl
  clear hyx hyr hys hyl hlen
  go_loopw [8, 9] (fun n i wr => ∃ k : Nat, k ≤ 1 ∧ i = .int .i64 k ∧ n = .int .u64 (beTo ys k) ∧ Rr wr p S a v ∧ Rx w.heap.size p w wr ∧ Box wr w.heap.size 0 0 ⟨#[]⟩) (fun _ i _ => 1 - (intOf i).toNat)
  case atStart => exact ⟨0, Nat.zero_le _, rfl, rfl, HR.out, HB.out, HX.out⟩
  case round =>
    obtain ⟨k, hk, rfl, rfl, hR, hB, hX⟩ := hrel
    have c0 := hR.c0
    have c1 := hR.c1
    have hsw := hB.size
    have hBlt := hX.lt
    have hpW := hR.lt
    have HB2 := Lib.hid hB
    have HX2 := Lib.hid hX
    have HR2 := Lib.hid hR
    by_cases hkS : k < 1
    · have hixk := HYX.out k hkS
      have hbd := beTo_bd ys HYR.out k (by rw [HYL.out]; exact hk)
      have hpow : (256 : Int) ^ k ≤ 256 ^ 7 := by
        have : k ≤ 7 := by omega
        have h9 := Nat.pow_le_pow_right (n := 256) (by decide) this
        have h10 : ((256 ^ k : Nat) : Int) ≤ ((256 ^ 7 : Nat) : Int) := by omega
        simpa using h10
      have hby := HYR.out (ys.getD k 0) (by simp only [List.getD]; rw [List.getElem?_eq_getElem (by rw [HYL.out]; exact hkS)]; exact List.getElem_mem _)
      have hsu := beTo_succ (ys := ys) (k := k) (by rw [HYL.out]; exact hkS)
      have hor := or_step (beTo ys k) (ys.getD k 0) hbd.1 (by omega) hby.1 hby.2
      rw [← hsu] at hor
      obtain ⟨n2, hn2⟩ : ∃ n2, beTo ys (k + 1) = n2 := ⟨_, rfl⟩
      rw [hn2] at hor
      have HN2 := Lib.hid hn2
      generalize ys.getD k 0 = y at *
      have hyw : IntKind.u64.wrap y = y := by rw [IntKind.wrap_u64]; omega
      have HYW := Lib.hid hyw
      have HOR := Lib.hid hor
      clear hR hB hX hbd hpow hby hsu hn2 hyw hor
      go_wp2
      go_region
      go_wp2
      go_roundw
      case rel => exact ⟨k + 1, by omega, by go_num, by rw [HN2.out, HYW.out, HOR.out], HR2.out, HB2.out.drew, HX2.out⟩
      case measure => (simp [intOf] <;> omega)
    · have hkE : k = 1 := by omega
      subst hkE
      have hnv : beTo ys 1 = nv := by rw [← HYS.out]; exact hw
      rw [hnv]
      clear hnv hR hB hX hix hm han hw
      obtain ⟨b0, b1, b2, f0, f1, f2⟩ := HX2.out.cells
      have hF := hd_fin1 HX2.out HB2.out (Nat.le_refl _)
      have HF := Lib.hid hF
      clear hF
      go_wp2
      exact hd_end rfl rfl rfl (HF.out _ _ _ _).1 ⟨rfl, (HF.out _ _ _ _).2, fun h => by cases h⟩

set_option maxHeartbeats 1000000 in
theorem hdr_wshort2 (p : Nat) (S : ByteArray) (a : Nat) (v : Value) (w : World) (h : Rr w p S a v) (ha : a < S.size) (x m : Int) (hx : (dataI S).getD a 0 = x) (hm : x / 32 = m) (hl : x % 32 = 25) (h6 : m ≤ 5) (hN : S.size < a + 1 + 2) :
    Calls Tryd.prog 67 #[.pointer (some ⟨p, 0, none⟩)] w (HdP p S v (0, 0, 1, a) w) := by
  have hp := h.lt
  have hix := fun W => idx_str (S := S) ha hx W
  have H := Lib.hid h
  clear h
  obtain ⟨q0, q1⟩ := byte_rng hx
  have han := and31 x q0 q1
  rw [hl] at han
  have m0 : 0 ≤ m ∧ m ≤ 7 := by omega
  have y1 : (x == 244) = false := by simp; omega
  have y2 : (x == 245) = false := by simp; omega
  have y3 : (x == 246) = false := by simp; omega
  clear hx hl
  have h5 : ¬ 5 < m := by omega
  obtain ⟨M, rfl⟩ := Int.eq_ofNat_of_zero_le m0.1
  go_enter Tryd.func67, Tryd.ntmps67
  go_wp2_with fail
  refine gen_world (fun W => Rr W p S a v ∧ Below w.heap.size w W ∧ Box W w.heap.size 0 0 ⟨#[]⟩) ⟨H.out.below ((Below.refl _ w).alloc (Nat.le_refl _) _) hp, (Below.refl _ w).alloc (Nat.le_refl _) _, Box.new w 0 0 ⟨#[]⟩⟩ ?_
  rintro W ⟨hR, hB, hX⟩
  have c0 := hR.c0
  have c1 := hR.c1
  have g1 := hR.fz 1
  obtain ⟨b0, b1, b2, f0, f1, f2⟩ := hX.cells
  have HB := Lib.hid (Rx.of_below (p := p) hB)
  have HX := Lib.hid hX
  have HR := Lib.hid hR
  have hne : w.heap.size ≠ p := by omega
  have hpn : p ≠ w.heap.size := by omega
  clear hR hX hB
  go_region
  go_wp2
  go_region
  go_wp2
  go_region
  go_wp2
  exact hd_end rfl rfl rfl (HX.out.set3 (k := 0) (n := 0) (d := ⟨#[]⟩)) ⟨rfl, (((HB.out.setNew (Nat.le_refl _) _ _).setNew (Nat.le_refl _) _ _).setNew (Nat.le_refl _) _ _).drew.drew.drew, fun h => by cases h⟩

set_option maxHeartbeats 1000000 in
theorem hdr_wide2 (p : Nat) (S : ByteArray) (a : Nat) (v : Value) (w : World) (h : Rr w p S a v) (ha : a < S.size) (hs : S.size ≤ 9000000000000000) (x m : Int) (hx : (dataI S).getD a 0 = x) (hm : x / 32 = m) (hl : x % 32 = 25) (h6 : m ≤ 5) (hN : a + 1 + 2 ≤ S.size) (nv : Int) (hw : widN (dataI S) a 2 = nv) (hv : 256 ≤ nv) :
    Calls Tryd.prog 67 #[.pointer (some ⟨p, 0, none⟩)] w (HdP p S v (1 + m, nv, 0, a + 1 + 2) w) := by
  have hp := h.lt
  have hix := fun W => idx_str (S := S) ha hx W
  have H := Lib.hid h
  clear h
  obtain ⟨q0, q1⟩ := byte_rng hx
  have han := and31 x q0 q1
  rw [hl] at han
  have m0 : 0 ≤ m ∧ m ≤ 7 := by omega
  have y1 : (x == 244) = false := by simp; omega
  have y2 : (x == 245) = false := by simp; omega
  have y3 : (x == 246) = false := by simp; omega
  clear hx hl
  have h5 : ¬ 5 < m := by omega
  obtain ⟨M, rfl⟩ := Int.eq_ofNat_of_zero_le m0.1
  go_enter Tryd.func67, Tryd.ntmps67
  go_wp2_with fail
  refine gen_world (fun W => Rr W p S a v ∧ Below w.heap.size w W ∧ Box W w.heap.size 0 0 ⟨#[]⟩) ⟨H.out.below ((Below.refl _ w).alloc (Nat.le_refl _) _) hp, (Below.refl _ w).alloc (Nat.le_refl _) _, Box.new w 0 0 ⟨#[]⟩⟩ ?_
  rintro W ⟨hR, hB, hX⟩
  have c0 := hR.c0
  have c1 := hR.c1
  have g1 := hR.fz 1
  obtain ⟨b0, b1, b2, f0, f1, f2⟩ := hX.cells
  have HB := Lib.hid (Rx.of_below (p := p) hB)
  have HX := Lib.hid hX
  have HR := Lib.hid hR
  have hne : w.heap.size ≠ p := by omega
  have hpn : p ≠ w.heap.size := by omega
  clear hR hX hB
  go_region
  go_wp2
  go_region
  go_wp2
  go_region
  go_wp2_with fail
  refine gen_world (fun W => Rr W p S a v ∧ Rx w.heap.size p w W ∧ Box W w.heap.size 0 0 ⟨#[]⟩) ⟨HR.out, HB.out.drew.drew.drew, HX.out⟩ ?_
  clear c0 c1 g1 b0 b1 b2 f0 f1 f2 HB HX HR
  rintro W ⟨hR, hB, hX⟩
  have c0 := hR.c0
  have c1 := hR.c1
  have g1 := hR.fz 1
  obtain ⟨b0, b1, b2, f0, f1, f2⟩ := hX.cells
  have hsw := hB.size
  have hBlt := hX.lt
  have hpW := hR.lt
  have HB := Lib.hid hB
  have HX := Lib.hid hX
  have HR := Lib.hid hR
  clear hR hX hB
  have hlen : ((dataI S).drop (a + 1)).length = S.size - (a + 1) := by rw [List.length_drop, dataI_len]
  obtain ⟨ys, hys⟩ : ∃ ys, ((dataI S).drop (a + 1)).take 2 = ys := ⟨_, rfl⟩
  have hyl : ys.length = 2 := by rw [← hys, List.length_take, hlen]; omega
  have hyr : ∀ z ∈ ys, 0 ≤ z ∧ z ≤ 255 := fun z hz => by rw [← hys] at hz; exact dataI_rng S z (List.mem_of_mem_drop (List.mem_of_mem_take hz))
  have hyx : ∀ k : Nat, k < 2 → ∀ W, (Instr.index 9 (.string S) (.int .i64 ((a : Int) + 1 + (k : Int)))).run Tryd.prog W = .ok (.int .u8 (ys.getD k 0)) W := fun k hk W => by
    have h := idx_str (S := S) (i := a + 1 + k) (x := ys.getD k 0) (by omega) (by rw [← hys]; simp [List.getD, hk]) W
    rw [show ((a + 1 + k : Nat) : Int) = (a : Int) + 1 + (k : Int) by omega] at h
    exact h
  have HYX := Lib.hid hyx
  have HYR := Lib.hid hyr
  have HYS := Lib.hid hys
  have HYL := Lib.hid hyl
  clear hyx hyr hys hyl hlen
  go_loopw [8, 9] (fun n i wr => ∃ k : Nat, k ≤ 2 ∧ i = .int .i64 k ∧ n = .int .u64 (beTo ys k) ∧ Rr wr p S a v ∧ Rx w.heap.size p w wr ∧ Box wr w.heap.size 0 0 ⟨#[]⟩) (fun _ i _ => 2 - (intOf i).toNat)
  case atStart => exact ⟨0, Nat.zero_le _, rfl, rfl, HR.out, HB.out, HX.out⟩
  case round =>
    obtain ⟨k, hk, rfl, rfl, hR, hB, hX⟩ := hrel
    have c0 := hR.c0
    have c1 := hR.c1
    have hsw := hB.size
    have hBlt := hX.lt
    have hpW := hR.lt
    have HB2 := Lib.hid hB
    have HX2 := Lib.hid hX
    have HR2 := Lib.hid hR
    by_cases hkS : k < 2
    · have hixk := HYX.out k hkS
      have hbd := beTo_bd ys HYR.out k (by rw [HYL.out]; exact hk)
      have hpow : (256 : Int) ^ k ≤ 256 ^ 7 := by
        have : k ≤ 7 := by omega
        have h9 := Nat.pow_le_pow_right (n := 256) (by decide) this
        have h10 : ((256 ^ k : Nat) : Int) ≤ ((256 ^ 7 : Nat) : Int) := by omega
        simpa using h10
      have hby := HYR.out (ys.getD k 0) (by simp only [List.getD]; rw [List.getElem?_eq_getElem (by rw [HYL.out]; exact hkS)]; exact List.getElem_mem _)
      have hsu := beTo_succ (ys := ys) (k := k) (by rw [HYL.out]; exact hkS)
      have hor := or_step (beTo ys k) (ys.getD k 0) hbd.1 (by omega) hby.1 hby.2
      rw [← hsu] at hor
      obtain ⟨n2, hn2⟩ : ∃ n2, beTo ys (k + 1) = n2 := ⟨_, rfl⟩
      rw [hn2] at hor
      have HN2 := Lib.hid hn2
      generalize ys.getD k 0 = y at *
      have hyw : IntKind.u64.wrap y = y := by rw [IntKind.wrap_u64]; omega
      have HYW := Lib.hid hyw
      have HOR := Lib.hid hor
      clear hR hB hX hbd hpow hby hsu hn2 hyw hor
      go_wp2
      go_region
      go_wp2
      go_roundw
      case rel => exact ⟨k + 1, by omega, by go_num, by rw [HN2.out, HYW.out, HOR.out], HR2.out, HB2.out.drew, HX2.out⟩
      case measure => (simp [intOf] <;> omega)
    · have hkE : k = 2 := by omega
      subst hkE
      have hnv : beTo ys 2 = nv := by rw [← HYS.out]; exact hw
      rw [hnv]
      clear hnv hR hB hX hix hm han hw
      have hF := hd_fin HR2.out HX2.out HB2.out hne (Nat.le_refl _) (a + 1 + 2) ((a : Int) + 3) (by omega)
      have hK := fun z o1 => kinds_at M (by omega) p z o1 wr
      have g1 := HR2.out.fz 1
      obtain ⟨b0, b1, b2, f0, f1, f2⟩ := HX2.out.cells
      have HF := Lib.hid hF
      clear hF
      go_wp2
      exact hd_end rfl rfl rfl (HF.out _ _ _ _ _).1 ⟨rfl, (HF.out _ _ _ _ _).2.1, fun _ => (HF.out _ _ _ _ _).2.2⟩

set_option maxHeartbeats 1000000 in
theorem hdr_wbad2 (p : Nat) (S : ByteArray) (a : Nat) (v : Value) (w : World) (h : Rr w p S a v) (ha : a < S.size) (hs : S.size ≤ 9000000000000000) (x m : Int) (hx : (dataI S).getD a 0 = x) (hm : x / 32 = m) (hl : x % 32 = 25) (h6 : m ≤ 5) (hN : a + 1 + 2 ≤ S.size) (nv : Int) (hw : widN (dataI S) a 2 = nv) (hv : nv < 256) :
    Calls Tryd.prog 67 #[.pointer (some ⟨p, 0, none⟩)] w (HdP p S v (0, 0, 2, a) w) := by
  have hp := h.lt
  have hix := fun W => idx_str (S := S) ha hx W
  have H := Lib.hid h
  clear h
  obtain ⟨q0, q1⟩ := byte_rng hx
  have han := and31 x q0 q1
  rw [hl] at han
  have m0 : 0 ≤ m ∧ m ≤ 7 := by omega
  have y1 : (x == 244) = false := by simp; omega
  have y2 : (x == 245) = false := by simp; omega
  have y3 : (x == 246) = false := by simp; omega
  clear hx hl
  have h5 : ¬ 5 < m := by omega
  obtain ⟨M, rfl⟩ := Int.eq_ofNat_of_zero_le m0.1
  go_enter Tryd.func67, Tryd.ntmps67
  go_wp2_with fail
  refine gen_world (fun W => Rr W p S a v ∧ Below w.heap.size w W ∧ Box W w.heap.size 0 0 ⟨#[]⟩) ⟨H.out.below ((Below.refl _ w).alloc (Nat.le_refl _) _) hp, (Below.refl _ w).alloc (Nat.le_refl _) _, Box.new w 0 0 ⟨#[]⟩⟩ ?_
  rintro W ⟨hR, hB, hX⟩
  have c0 := hR.c0
  have c1 := hR.c1
  have g1 := hR.fz 1
  obtain ⟨b0, b1, b2, f0, f1, f2⟩ := hX.cells
  have HB := Lib.hid (Rx.of_below (p := p) hB)
  have HX := Lib.hid hX
  have HR := Lib.hid hR
  have hne : w.heap.size ≠ p := by omega
  have hpn : p ≠ w.heap.size := by omega
  clear hR hX hB
  go_region
  go_wp2
  go_region
  go_wp2
  go_region
  go_wp2_with fail
  refine gen_world (fun W => Rr W p S a v ∧ Rx w.heap.size p w W ∧ Box W w.heap.size 0 0 ⟨#[]⟩) ⟨HR.out, HB.out.drew.drew.drew, HX.out⟩ ?_
  clear c0 c1 g1 b0 b1 b2 f0 f1 f2 HB HX HR
  rintro W ⟨hR, hB, hX⟩
  have c0 := hR.c0
  have c1 := hR.c1
  have g1 := hR.fz 1
  obtain ⟨b0, b1, b2, f0, f1, f2⟩ := hX.cells
  have hsw := hB.size
  have hBlt := hX.lt
  have hpW := hR.lt
  have HB := Lib.hid hB
  have HX := Lib.hid hX
  have HR := Lib.hid hR
  clear hR hX hB
  have hlen : ((dataI S).drop (a + 1)).length = S.size - (a + 1) := by rw [List.length_drop, dataI_len]
  obtain ⟨ys, hys⟩ : ∃ ys, ((dataI S).drop (a + 1)).take 2 = ys := ⟨_, rfl⟩
  have hyl : ys.length = 2 := by rw [← hys, List.length_take, hlen]; omega
  have hyr : ∀ z ∈ ys, 0 ≤ z ∧ z ≤ 255 := fun z hz => by rw [← hys] at hz; exact dataI_rng S z (List.mem_of_mem_drop (List.mem_of_mem_take hz))
  have hyx : ∀ k : Nat, k < 2 → ∀ W, (Instr.index 9 (.string S) (.int .i64 ((a : Int) + 1 + (k : Int)))).run Tryd.prog W = .ok (.int .u8 (ys.getD k 0)) W := fun k hk W => by
    have h := idx_str (S := S) (i := a + 1 + k) (x := ys.getD k 0) (by omega) (by rw [← hys]; simp [List.getD, hk]) W
    rw [show ((a + 1 + k : Nat) : Int) = (a : Int) + 1 + (k : Int) by omega] at h
    exact h
  have HYX := Lib.hid hyx
  have HYR := Lib.hid hyr
  have HYS := Lib.hid hys
  have HYL := Lib.hid hyl
  clear hyx hyr hys hyl hlen
  go_loopw [8, 9] (fun n i wr => ∃ k : Nat, k ≤ 2 ∧ i = .int .i64 k ∧ n = .int .u64 (beTo ys k) ∧ Rr wr p S a v ∧ Rx w.heap.size p w wr ∧ Box wr w.heap.size 0 0 ⟨#[]⟩) (fun _ i _ => 2 - (intOf i).toNat)
  case atStart => exact ⟨0, Nat.zero_le _, rfl, rfl, HR.out, HB.out, HX.out⟩
  case round =>
    obtain ⟨k, hk, rfl, rfl, hR, hB, hX⟩ := hrel
    have c0 := hR.c0
    have c1 := hR.c1
    have hsw := hB.size
    have hBlt := hX.lt
    have hpW := hR.lt
    have HB2 := Lib.hid hB
    have HX2 := Lib.hid hX
    have HR2 := Lib.hid hR
    by_cases hkS : k < 2
    · have hixk := HYX.out k hkS
      have hbd := beTo_bd ys HYR.out k (by rw [HYL.out]; exact hk)
      have hpow : (256 : Int) ^ k ≤ 256 ^ 7 := by
        have : k ≤ 7 := by omega
        have h9 := Nat.pow_le_pow_right (n := 256) (by decide) this
        have h10 : ((256 ^ k : Nat) : Int) ≤ ((256 ^ 7 : Nat) : Int) := by omega
        simpa using h10
      have hby := HYR.out (ys.getD k 0) (by simp only [List.getD]; rw [List.getElem?_eq_getElem (by rw [HYL.out]; exact hkS)]; exact List.getElem_mem _)
      have hsu := beTo_succ (ys := ys) (k := k) (by rw [HYL.out]; exact hkS)
      have hor := or_step (beTo ys k) (ys.getD k 0) hbd.1 (by omega) hby.1 hby.2
      rw [← hsu] at hor
      obtain ⟨n2, hn2⟩ : ∃ n2, beTo ys (k + 1) = n2 := ⟨_, rfl⟩
      rw [hn2] at hor
      have HN2 := Lib.hid hn2
      generalize ys.getD k 0 = y at *
      have hyw : IntKind.u64.wrap y = y := by rw [IntKind.wrap_u64]; omega
      have HYW := Lib.hid hyw
      have HOR := Lib.hid hor
      clear hR hB hX hbd hpow hby hsu hn2 hyw hor
      go_wp2
      go_region
      go_wp2
      go_roundw
      case rel => exact ⟨k + 1, by omega, by go_num, by rw [HN2.out, HYW.out, HOR.out], HR2.out, HB2.out.drew, HX2.out⟩
      case measure => (simp [intOf] <;> omega)
    · have hkE : k = 2 := by omega
      subst hkE
      have hnv : beTo ys 2 = nv := by rw [← HYS.out]; exact hw
      rw [hnv]
      clear hnv hR hB hX hix hm han hw
      obtain ⟨b0, b1, b2, f0, f1, f2⟩ := HX2.out.cells
      have hF := hd_fin1 HX2.out HB2.out (Nat.le_refl _)
      have HF := Lib.hid hF
      clear hF
      go_wp2
      exact hd_end rfl rfl rfl (HF.out _ _ _ _).1 ⟨rfl, (HF.out _ _ _ _).2, fun h => by cases h⟩

end Go.Proofs.YtepinmeidjlmmaaDoor

/- The reference's head: a wide argument of four or eight bytes. -/
namespace Go.Proofs.YtepinmeidjlmmaaDoor
open Go.RowKit
set_option maxRecDepth 100000

set_option maxHeartbeats 1000000 in
theorem hdr_wshort4 (p : Nat) (S : ByteArray) (a : Nat) (v : Value) (w : World) (h : Rr w p S a v) (ha : a < S.size) (x m : Int) (hx : (dataI S).getD a 0 = x) (hm : x / 32 = m) (hl : x % 32 = 26) (h6 : m ≤ 5) (hN : S.size < a + 1 + 4) :
    Calls Tryd.prog 67 #[.pointer (some ⟨p, 0, none⟩)] w (HdP p S v (0, 0, 1, a) w) := by
  have hp := h.lt
  have hix := fun W => idx_str (S := S) ha hx W
  have H := Lib.hid h
  clear h
  obtain ⟨q0, q1⟩ := byte_rng hx
  have han := and31 x q0 q1
  rw [hl] at han
  have m0 : 0 ≤ m ∧ m ≤ 7 := by omega
  have y1 : (x == 244) = false := by simp; omega
  have y2 : (x == 245) = false := by simp; omega
  have y3 : (x == 246) = false := by simp; omega
  clear hx hl
  have h5 : ¬ 5 < m := by omega
  obtain ⟨M, rfl⟩ := Int.eq_ofNat_of_zero_le m0.1
  go_enter Tryd.func67, Tryd.ntmps67
  go_wp2_with fail
  refine gen_world (fun W => Rr W p S a v ∧ Below w.heap.size w W ∧ Box W w.heap.size 0 0 ⟨#[]⟩) ⟨H.out.below ((Below.refl _ w).alloc (Nat.le_refl _) _) hp, (Below.refl _ w).alloc (Nat.le_refl _) _, Box.new w 0 0 ⟨#[]⟩⟩ ?_
  rintro W ⟨hR, hB, hX⟩
  have c0 := hR.c0
  have c1 := hR.c1
  have g1 := hR.fz 1
  obtain ⟨b0, b1, b2, f0, f1, f2⟩ := hX.cells
  have HB := Lib.hid (Rx.of_below (p := p) hB)
  have HX := Lib.hid hX
  have HR := Lib.hid hR
  have hne : w.heap.size ≠ p := by omega
  have hpn : p ≠ w.heap.size := by omega
  clear hR hX hB
  go_region
  go_wp2
  go_region
  go_wp2
  go_region
  go_wp2
  exact hd_end rfl rfl rfl (HX.out.set3 (k := 0) (n := 0) (d := ⟨#[]⟩)) ⟨rfl, (((HB.out.setNew (Nat.le_refl _) _ _).setNew (Nat.le_refl _) _ _).setNew (Nat.le_refl _) _ _).drew.drew.drew, fun h => by cases h⟩

set_option maxHeartbeats 1000000 in
theorem hdr_wide4 (p : Nat) (S : ByteArray) (a : Nat) (v : Value) (w : World) (h : Rr w p S a v) (ha : a < S.size) (hs : S.size ≤ 9000000000000000) (x m : Int) (hx : (dataI S).getD a 0 = x) (hm : x / 32 = m) (hl : x % 32 = 26) (h6 : m ≤ 5) (hN : a + 1 + 4 ≤ S.size) (nv : Int) (hw : widN (dataI S) a 4 = nv) (hv : 65536 ≤ nv) :
    Calls Tryd.prog 67 #[.pointer (some ⟨p, 0, none⟩)] w (HdP p S v (1 + m, nv, 0, a + 1 + 4) w) := by
  have hp := h.lt
  have hix := fun W => idx_str (S := S) ha hx W
  have H := Lib.hid h
  clear h
  obtain ⟨q0, q1⟩ := byte_rng hx
  have han := and31 x q0 q1
  rw [hl] at han
  have m0 : 0 ≤ m ∧ m ≤ 7 := by omega
  have y1 : (x == 244) = false := by simp; omega
  have y2 : (x == 245) = false := by simp; omega
  have y3 : (x == 246) = false := by simp; omega
  clear hx hl
  have h5 : ¬ 5 < m := by omega
  obtain ⟨M, rfl⟩ := Int.eq_ofNat_of_zero_le m0.1
  go_enter Tryd.func67, Tryd.ntmps67
  go_wp2_with fail
  refine gen_world (fun W => Rr W p S a v ∧ Below w.heap.size w W ∧ Box W w.heap.size 0 0 ⟨#[]⟩) ⟨H.out.below ((Below.refl _ w).alloc (Nat.le_refl _) _) hp, (Below.refl _ w).alloc (Nat.le_refl _) _, Box.new w 0 0 ⟨#[]⟩⟩ ?_
  rintro W ⟨hR, hB, hX⟩
  have c0 := hR.c0
  have c1 := hR.c1
  have g1 := hR.fz 1
  obtain ⟨b0, b1, b2, f0, f1, f2⟩ := hX.cells
  have HB := Lib.hid (Rx.of_below (p := p) hB)
  have HX := Lib.hid hX
  have HR := Lib.hid hR
  have hne : w.heap.size ≠ p := by omega
  have hpn : p ≠ w.heap.size := by omega
  clear hR hX hB
  go_region
  go_wp2
  go_region
  go_wp2
  go_region
  go_wp2_with fail
  refine gen_world (fun W => Rr W p S a v ∧ Rx w.heap.size p w W ∧ Box W w.heap.size 0 0 ⟨#[]⟩) ⟨HR.out, HB.out.drew.drew.drew, HX.out⟩ ?_
  clear c0 c1 g1 b0 b1 b2 f0 f1 f2 HB HX HR
  rintro W ⟨hR, hB, hX⟩
  have c0 := hR.c0
  have c1 := hR.c1
  have g1 := hR.fz 1
  obtain ⟨b0, b1, b2, f0, f1, f2⟩ := hX.cells
  have hsw := hB.size
  have hBlt := hX.lt
  have hpW := hR.lt
  have HB := Lib.hid hB
  have HX := Lib.hid hX
  have HR := Lib.hid hR
  clear hR hX hB
  have hlen : ((dataI S).drop (a + 1)).length = S.size - (a + 1) := by rw [List.length_drop, dataI_len]
  obtain ⟨ys, hys⟩ : ∃ ys, ((dataI S).drop (a + 1)).take 4 = ys := ⟨_, rfl⟩
  have hyl : ys.length = 4 := by rw [← hys, List.length_take, hlen]; omega
  have hyr : ∀ z ∈ ys, 0 ≤ z ∧ z ≤ 255 := fun z hz => by rw [← hys] at hz; exact dataI_rng S z (List.mem_of_mem_drop (List.mem_of_mem_take hz))
  have hyx : ∀ k : Nat, k < 4 → ∀ W, (Instr.index 9 (.string S) (.int .i64 ((a : Int) + 1 + (k : Int)))).run Tryd.prog W = .ok (.int .u8 (ys.getD k 0)) W := fun k hk W => by
    have h := idx_str (S := S) (i := a + 1 + k) (x := ys.getD k 0) (by omega) (by rw [← hys]; simp [List.getD, hk]) W
    rw [show ((a + 1 + k : Nat) : Int) = (a : Int) + 1 + (k : Int) by omega] at h
    exact h
  have HYX := Lib.hid hyx
  have HYR := Lib.hid hyr
  have HYS := Lib.hid hys
  have HYL := Lib.hid hyl
  clear hyx hyr hys hyl hlen
  go_loopw [8, 9] (fun n i wr => ∃ k : Nat, k ≤ 4 ∧ i = .int .i64 k ∧ n = .int .u64 (beTo ys k) ∧ Rr wr p S a v ∧ Rx w.heap.size p w wr ∧ Box wr w.heap.size 0 0 ⟨#[]⟩) (fun _ i _ => 4 - (intOf i).toNat)
  case atStart => exact ⟨0, Nat.zero_le _, rfl, rfl, HR.out, HB.out, HX.out⟩
  case round =>
    obtain ⟨k, hk, rfl, rfl, hR, hB, hX⟩ := hrel
    have c0 := hR.c0
    have c1 := hR.c1
    have hsw := hB.size
    have hBlt := hX.lt
    have hpW := hR.lt
    have HB2 := Lib.hid hB
    have HX2 := Lib.hid hX
    have HR2 := Lib.hid hR
    by_cases hkS : k < 4
    · have hixk := HYX.out k hkS
      have hbd := beTo_bd ys HYR.out k (by rw [HYL.out]; exact hk)
      have hpow : (256 : Int) ^ k ≤ 256 ^ 7 := by
        have : k ≤ 7 := by omega
        have h9 := Nat.pow_le_pow_right (n := 256) (by decide) this
        have h10 : ((256 ^ k : Nat) : Int) ≤ ((256 ^ 7 : Nat) : Int) := by omega
        simpa using h10
      have hby := HYR.out (ys.getD k 0) (by simp only [List.getD]; rw [List.getElem?_eq_getElem (by rw [HYL.out]; exact hkS)]; exact List.getElem_mem _)
      have hsu := beTo_succ (ys := ys) (k := k) (by rw [HYL.out]; exact hkS)
      have hor := or_step (beTo ys k) (ys.getD k 0) hbd.1 (by omega) hby.1 hby.2
      rw [← hsu] at hor
      obtain ⟨n2, hn2⟩ : ∃ n2, beTo ys (k + 1) = n2 := ⟨_, rfl⟩
      rw [hn2] at hor
      have HN2 := Lib.hid hn2
      generalize ys.getD k 0 = y at *
      have hyw : IntKind.u64.wrap y = y := by rw [IntKind.wrap_u64]; omega
      have HYW := Lib.hid hyw
      have HOR := Lib.hid hor
      clear hR hB hX hbd hpow hby hsu hn2 hyw hor
      go_wp2
      go_region
      go_wp2
      go_roundw
      case rel => exact ⟨k + 1, by omega, by go_num, by rw [HN2.out, HYW.out, HOR.out], HR2.out, HB2.out.drew, HX2.out⟩
      case measure => (simp [intOf] <;> omega)
    · have hkE : k = 4 := by omega
      subst hkE
      have hnv : beTo ys 4 = nv := by rw [← HYS.out]; exact hw
      rw [hnv]
      clear hnv hR hB hX hix hm han hw
      have hF := hd_fin HR2.out HX2.out HB2.out hne (Nat.le_refl _) (a + 1 + 4) ((a : Int) + 5) (by omega)
      have hK := fun z o1 => kinds_at M (by omega) p z o1 wr
      have g1 := HR2.out.fz 1
      obtain ⟨b0, b1, b2, f0, f1, f2⟩ := HX2.out.cells
      have HF := Lib.hid hF
      clear hF
      go_wp2
      exact hd_end rfl rfl rfl (HF.out _ _ _ _ _).1 ⟨rfl, (HF.out _ _ _ _ _).2.1, fun _ => (HF.out _ _ _ _ _).2.2⟩

set_option maxHeartbeats 1000000 in
theorem hdr_wbad4 (p : Nat) (S : ByteArray) (a : Nat) (v : Value) (w : World) (h : Rr w p S a v) (ha : a < S.size) (hs : S.size ≤ 9000000000000000) (x m : Int) (hx : (dataI S).getD a 0 = x) (hm : x / 32 = m) (hl : x % 32 = 26) (h6 : m ≤ 5) (hN : a + 1 + 4 ≤ S.size) (nv : Int) (hw : widN (dataI S) a 4 = nv) (hv : nv < 65536) :
    Calls Tryd.prog 67 #[.pointer (some ⟨p, 0, none⟩)] w (HdP p S v (0, 0, 2, a) w) := by
  have hp := h.lt
  have hix := fun W => idx_str (S := S) ha hx W
  have H := Lib.hid h
  clear h
  obtain ⟨q0, q1⟩ := byte_rng hx
  have han := and31 x q0 q1
  rw [hl] at han
  have m0 : 0 ≤ m ∧ m ≤ 7 := by omega
  have y1 : (x == 244) = false := by simp; omega
  have y2 : (x == 245) = false := by simp; omega
  have y3 : (x == 246) = false := by simp; omega
  clear hx hl
  have h5 : ¬ 5 < m := by omega
  obtain ⟨M, rfl⟩ := Int.eq_ofNat_of_zero_le m0.1
  go_enter Tryd.func67, Tryd.ntmps67
  go_wp2_with fail
  refine gen_world (fun W => Rr W p S a v ∧ Below w.heap.size w W ∧ Box W w.heap.size 0 0 ⟨#[]⟩) ⟨H.out.below ((Below.refl _ w).alloc (Nat.le_refl _) _) hp, (Below.refl _ w).alloc (Nat.le_refl _) _, Box.new w 0 0 ⟨#[]⟩⟩ ?_
  rintro W ⟨hR, hB, hX⟩
  have c0 := hR.c0
  have c1 := hR.c1
  have g1 := hR.fz 1
  obtain ⟨b0, b1, b2, f0, f1, f2⟩ := hX.cells
  have HB := Lib.hid (Rx.of_below (p := p) hB)
  have HX := Lib.hid hX
  have HR := Lib.hid hR
  have hne : w.heap.size ≠ p := by omega
  have hpn : p ≠ w.heap.size := by omega
  clear hR hX hB
  go_region
  go_wp2
  go_region
  go_wp2
  go_region
  go_wp2_with fail
  refine gen_world (fun W => Rr W p S a v ∧ Rx w.heap.size p w W ∧ Box W w.heap.size 0 0 ⟨#[]⟩) ⟨HR.out, HB.out.drew.drew.drew, HX.out⟩ ?_
  clear c0 c1 g1 b0 b1 b2 f0 f1 f2 HB HX HR
  rintro W ⟨hR, hB, hX⟩
  have c0 := hR.c0
  have c1 := hR.c1
  have g1 := hR.fz 1
  obtain ⟨b0, b1, b2, f0, f1, f2⟩ := hX.cells
  have hsw := hB.size
  have hBlt := hX.lt
  have hpW := hR.lt
  have HB := Lib.hid hB
  have HX := Lib.hid hX
  have HR := Lib.hid hR
  clear hR hX hB
  have hlen : ((dataI S).drop (a + 1)).length = S.size - (a + 1) := by rw [List.length_drop, dataI_len]
  obtain ⟨ys, hys⟩ : ∃ ys, ((dataI S).drop (a + 1)).take 4 = ys := ⟨_, rfl⟩
  have hyl : ys.length = 4 := by rw [← hys, List.length_take, hlen]; omega
  have hyr : ∀ z ∈ ys, 0 ≤ z ∧ z ≤ 255 := fun z hz => by rw [← hys] at hz; exact dataI_rng S z (List.mem_of_mem_drop (List.mem_of_mem_take hz))
  have hyx : ∀ k : Nat, k < 4 → ∀ W, (Instr.index 9 (.string S) (.int .i64 ((a : Int) + 1 + (k : Int)))).run Tryd.prog W = .ok (.int .u8 (ys.getD k 0)) W := fun k hk W => by
    have h := idx_str (S := S) (i := a + 1 + k) (x := ys.getD k 0) (by omega) (by rw [← hys]; simp [List.getD, hk]) W
    rw [show ((a + 1 + k : Nat) : Int) = (a : Int) + 1 + (k : Int) by omega] at h
    exact h
  have HYX := Lib.hid hyx
  have HYR := Lib.hid hyr
  have HYS := Lib.hid hys
  have HYL := Lib.hid hyl
  clear hyx hyr hys hyl hlen
  go_loopw [8, 9] (fun n i wr => ∃ k : Nat, k ≤ 4 ∧ i = .int .i64 k ∧ n = .int .u64 (beTo ys k) ∧ Rr wr p S a v ∧ Rx w.heap.size p w wr ∧ Box wr w.heap.size 0 0 ⟨#[]⟩) (fun _ i _ => 4 - (intOf i).toNat)
  case atStart => exact ⟨0, Nat.zero_le _, rfl, rfl, HR.out, HB.out, HX.out⟩
  case round =>
    obtain ⟨k, hk, rfl, rfl, hR, hB, hX⟩ := hrel
    have c0 := hR.c0
    have c1 := hR.c1
    have hsw := hB.size
    have hBlt := hX.lt
    have hpW := hR.lt
    have HB2 := Lib.hid hB
    have HX2 := Lib.hid hX
    have HR2 := Lib.hid hR
    by_cases hkS : k < 4
    · have hixk := HYX.out k hkS
      have hbd := beTo_bd ys HYR.out k (by rw [HYL.out]; exact hk)
      have hpow : (256 : Int) ^ k ≤ 256 ^ 7 := by
        have : k ≤ 7 := by omega
        have h9 := Nat.pow_le_pow_right (n := 256) (by decide) this
        have h10 : ((256 ^ k : Nat) : Int) ≤ ((256 ^ 7 : Nat) : Int) := by omega
        simpa using h10
      have hby := HYR.out (ys.getD k 0) (by simp only [List.getD]; rw [List.getElem?_eq_getElem (by rw [HYL.out]; exact hkS)]; exact List.getElem_mem _)
      have hsu := beTo_succ (ys := ys) (k := k) (by rw [HYL.out]; exact hkS)
      have hor := or_step (beTo ys k) (ys.getD k 0) hbd.1 (by omega) hby.1 hby.2
      rw [← hsu] at hor
      obtain ⟨n2, hn2⟩ : ∃ n2, beTo ys (k + 1) = n2 := ⟨_, rfl⟩
      rw [hn2] at hor
      have HN2 := Lib.hid hn2
      generalize ys.getD k 0 = y at *
      have hyw : IntKind.u64.wrap y = y := by rw [IntKind.wrap_u64]; omega
      have HYW := Lib.hid hyw
      have HOR := Lib.hid hor
      clear hR hB hX hbd hpow hby hsu hn2 hyw hor
      go_wp2
      go_region
      go_wp2
      go_roundw
      case rel => exact ⟨k + 1, by omega, by go_num, by rw [HN2.out, HYW.out, HOR.out], HR2.out, HB2.out.drew, HX2.out⟩
      case measure => (simp [intOf] <;> omega)
    · have hkE : k = 4 := by omega
      subst hkE
      have hnv : beTo ys 4 = nv := by rw [← HYS.out]; exact hw
      rw [hnv]
      clear hnv hR hB hX hix hm han hw
      obtain ⟨b0, b1, b2, f0, f1, f2⟩ := HX2.out.cells
      have hF := hd_fin1 HX2.out HB2.out (Nat.le_refl _)
      have HF := Lib.hid hF
      clear hF
      go_wp2
      exact hd_end rfl rfl rfl (HF.out _ _ _ _).1 ⟨rfl, (HF.out _ _ _ _).2, fun h => by cases h⟩

set_option maxHeartbeats 1000000 in
theorem hdr_wshort8 (p : Nat) (S : ByteArray) (a : Nat) (v : Value) (w : World) (h : Rr w p S a v) (ha : a < S.size) (x m : Int) (hx : (dataI S).getD a 0 = x) (hm : x / 32 = m) (hl : x % 32 = 27) (h6 : m ≤ 5) (hN : S.size < a + 1 + 8) :
    Calls Tryd.prog 67 #[.pointer (some ⟨p, 0, none⟩)] w (HdP p S v (0, 0, 1, a) w) := by
  have hp := h.lt
  have hix := fun W => idx_str (S := S) ha hx W
  have H := Lib.hid h
  clear h
  obtain ⟨q0, q1⟩ := byte_rng hx
  have han := and31 x q0 q1
  rw [hl] at han
  have m0 : 0 ≤ m ∧ m ≤ 7 := by omega
  have y1 : (x == 244) = false := by simp; omega
  have y2 : (x == 245) = false := by simp; omega
  have y3 : (x == 246) = false := by simp; omega
  clear hx hl
  have h5 : ¬ 5 < m := by omega
  obtain ⟨M, rfl⟩ := Int.eq_ofNat_of_zero_le m0.1
  go_enter Tryd.func67, Tryd.ntmps67
  go_wp2_with fail
  refine gen_world (fun W => Rr W p S a v ∧ Below w.heap.size w W ∧ Box W w.heap.size 0 0 ⟨#[]⟩) ⟨H.out.below ((Below.refl _ w).alloc (Nat.le_refl _) _) hp, (Below.refl _ w).alloc (Nat.le_refl _) _, Box.new w 0 0 ⟨#[]⟩⟩ ?_
  rintro W ⟨hR, hB, hX⟩
  have c0 := hR.c0
  have c1 := hR.c1
  have g1 := hR.fz 1
  obtain ⟨b0, b1, b2, f0, f1, f2⟩ := hX.cells
  have HB := Lib.hid (Rx.of_below (p := p) hB)
  have HX := Lib.hid hX
  have HR := Lib.hid hR
  have hne : w.heap.size ≠ p := by omega
  have hpn : p ≠ w.heap.size := by omega
  clear hR hX hB
  go_region
  go_wp2
  go_region
  go_wp2
  go_region
  go_wp2
  exact hd_end rfl rfl rfl (HX.out.set3 (k := 0) (n := 0) (d := ⟨#[]⟩)) ⟨rfl, (((HB.out.setNew (Nat.le_refl _) _ _).setNew (Nat.le_refl _) _ _).setNew (Nat.le_refl _) _ _).drew.drew.drew, fun h => by cases h⟩

set_option maxHeartbeats 1000000 in
theorem hdr_wide8 (p : Nat) (S : ByteArray) (a : Nat) (v : Value) (w : World) (h : Rr w p S a v) (ha : a < S.size) (hs : S.size ≤ 9000000000000000) (x m : Int) (hx : (dataI S).getD a 0 = x) (hm : x / 32 = m) (hl : x % 32 = 27) (h6 : m ≤ 5) (hN : a + 1 + 8 ≤ S.size) (nv : Int) (hw : widN (dataI S) a 8 = nv) (hv : 4294967296 ≤ nv) :
    Calls Tryd.prog 67 #[.pointer (some ⟨p, 0, none⟩)] w (HdP p S v (1 + m, nv, 0, a + 1 + 8) w) := by
  have hp := h.lt
  have hix := fun W => idx_str (S := S) ha hx W
  have H := Lib.hid h
  clear h
  obtain ⟨q0, q1⟩ := byte_rng hx
  have han := and31 x q0 q1
  rw [hl] at han
  have m0 : 0 ≤ m ∧ m ≤ 7 := by omega
  have y1 : (x == 244) = false := by simp; omega
  have y2 : (x == 245) = false := by simp; omega
  have y3 : (x == 246) = false := by simp; omega
  clear hx hl
  have h5 : ¬ 5 < m := by omega
  obtain ⟨M, rfl⟩ := Int.eq_ofNat_of_zero_le m0.1
  go_enter Tryd.func67, Tryd.ntmps67
  go_wp2_with fail
  refine gen_world (fun W => Rr W p S a v ∧ Below w.heap.size w W ∧ Box W w.heap.size 0 0 ⟨#[]⟩) ⟨H.out.below ((Below.refl _ w).alloc (Nat.le_refl _) _) hp, (Below.refl _ w).alloc (Nat.le_refl _) _, Box.new w 0 0 ⟨#[]⟩⟩ ?_
  rintro W ⟨hR, hB, hX⟩
  have c0 := hR.c0
  have c1 := hR.c1
  have g1 := hR.fz 1
  obtain ⟨b0, b1, b2, f0, f1, f2⟩ := hX.cells
  have HB := Lib.hid (Rx.of_below (p := p) hB)
  have HX := Lib.hid hX
  have HR := Lib.hid hR
  have hne : w.heap.size ≠ p := by omega
  have hpn : p ≠ w.heap.size := by omega
  clear hR hX hB
  go_region
  go_wp2
  go_region
  go_wp2
  go_region
  go_wp2_with fail
  refine gen_world (fun W => Rr W p S a v ∧ Rx w.heap.size p w W ∧ Box W w.heap.size 0 0 ⟨#[]⟩) ⟨HR.out, HB.out.drew.drew.drew, HX.out⟩ ?_
  clear c0 c1 g1 b0 b1 b2 f0 f1 f2 HB HX HR
  rintro W ⟨hR, hB, hX⟩
  have c0 := hR.c0
  have c1 := hR.c1
  have g1 := hR.fz 1
  obtain ⟨b0, b1, b2, f0, f1, f2⟩ := hX.cells
  have hsw := hB.size
  have hBlt := hX.lt
  have hpW := hR.lt
  have HB := Lib.hid hB
  have HX := Lib.hid hX
  have HR := Lib.hid hR
  clear hR hX hB
  have hlen : ((dataI S).drop (a + 1)).length = S.size - (a + 1) := by rw [List.length_drop, dataI_len]
  obtain ⟨ys, hys⟩ : ∃ ys, ((dataI S).drop (a + 1)).take 8 = ys := ⟨_, rfl⟩
  have hyl : ys.length = 8 := by rw [← hys, List.length_take, hlen]; omega
  have hyr : ∀ z ∈ ys, 0 ≤ z ∧ z ≤ 255 := fun z hz => by rw [← hys] at hz; exact dataI_rng S z (List.mem_of_mem_drop (List.mem_of_mem_take hz))
  have hyx : ∀ k : Nat, k < 8 → ∀ W, (Instr.index 9 (.string S) (.int .i64 ((a : Int) + 1 + (k : Int)))).run Tryd.prog W = .ok (.int .u8 (ys.getD k 0)) W := fun k hk W => by
    have h := idx_str (S := S) (i := a + 1 + k) (x := ys.getD k 0) (by omega) (by rw [← hys]; simp [List.getD, hk]) W
    rw [show ((a + 1 + k : Nat) : Int) = (a : Int) + 1 + (k : Int) by omega] at h
    exact h
  have HYX := Lib.hid hyx
  have HYR := Lib.hid hyr
  have HYS := Lib.hid hys
  have HYL := Lib.hid hyl
  clear hyx hyr hys hyl hlen
  go_loopw [8, 9] (fun n i wr => ∃ k : Nat, k ≤ 8 ∧ i = .int .i64 k ∧ n = .int .u64 (beTo ys k) ∧ Rr wr p S a v ∧ Rx w.heap.size p w wr ∧ Box wr w.heap.size 0 0 ⟨#[]⟩) (fun _ i _ => 8 - (intOf i).toNat)
  case atStart => exact ⟨0, Nat.zero_le _, rfl, rfl, HR.out, HB.out, HX.out⟩
  case round =>
    obtain ⟨k, hk, rfl, rfl, hR, hB, hX⟩ := hrel
    have c0 := hR.c0
    have c1 := hR.c1
    have hsw := hB.size
    have hBlt := hX.lt
    have hpW := hR.lt
    have HB2 := Lib.hid hB
    have HX2 := Lib.hid hX
    have HR2 := Lib.hid hR
    by_cases hkS : k < 8
    · have hixk := HYX.out k hkS
      have hbd := beTo_bd ys HYR.out k (by rw [HYL.out]; exact hk)
      have hpow : (256 : Int) ^ k ≤ 256 ^ 7 := by
        have : k ≤ 7 := by omega
        have h9 := Nat.pow_le_pow_right (n := 256) (by decide) this
        have h10 : ((256 ^ k : Nat) : Int) ≤ ((256 ^ 7 : Nat) : Int) := by omega
        simpa using h10
      have hby := HYR.out (ys.getD k 0) (by simp only [List.getD]; rw [List.getElem?_eq_getElem (by rw [HYL.out]; exact hkS)]; exact List.getElem_mem _)
      have hsu := beTo_succ (ys := ys) (k := k) (by rw [HYL.out]; exact hkS)
      have hor := or_step (beTo ys k) (ys.getD k 0) hbd.1 (by omega) hby.1 hby.2
      rw [← hsu] at hor
      obtain ⟨n2, hn2⟩ : ∃ n2, beTo ys (k + 1) = n2 := ⟨_, rfl⟩
      rw [hn2] at hor
      have HN2 := Lib.hid hn2
      generalize ys.getD k 0 = y at *
      have hyw : IntKind.u64.wrap y = y := by rw [IntKind.wrap_u64]; omega
      have HYW := Lib.hid hyw
      have HOR := Lib.hid hor
      clear hR hB hX hbd hpow hby hsu hn2 hyw hor
      go_wp2
      go_region
      go_wp2
      go_roundw
      case rel => exact ⟨k + 1, by omega, by go_num, by rw [HN2.out, HYW.out, HOR.out], HR2.out, HB2.out.drew, HX2.out⟩
      case measure => (simp [intOf] <;> omega)
    · have hkE : k = 8 := by omega
      subst hkE
      have hnv : beTo ys 8 = nv := by rw [← HYS.out]; exact hw
      rw [hnv]
      clear hnv hR hB hX hix hm han hw
      have hF := hd_fin HR2.out HX2.out HB2.out hne (Nat.le_refl _) (a + 1 + 8) ((a : Int) + 9) (by omega)
      have hK := fun z o1 => kinds_at M (by omega) p z o1 wr
      have g1 := HR2.out.fz 1
      obtain ⟨b0, b1, b2, f0, f1, f2⟩ := HX2.out.cells
      have HF := Lib.hid hF
      clear hF
      go_wp2
      exact hd_end rfl rfl rfl (HF.out _ _ _ _ _).1 ⟨rfl, (HF.out _ _ _ _ _).2.1, fun _ => (HF.out _ _ _ _ _).2.2⟩

set_option maxHeartbeats 1000000 in
theorem hdr_wbad8 (p : Nat) (S : ByteArray) (a : Nat) (v : Value) (w : World) (h : Rr w p S a v) (ha : a < S.size) (hs : S.size ≤ 9000000000000000) (x m : Int) (hx : (dataI S).getD a 0 = x) (hm : x / 32 = m) (hl : x % 32 = 27) (h6 : m ≤ 5) (hN : a + 1 + 8 ≤ S.size) (nv : Int) (hw : widN (dataI S) a 8 = nv) (hv : nv < 4294967296) :
    Calls Tryd.prog 67 #[.pointer (some ⟨p, 0, none⟩)] w (HdP p S v (0, 0, 2, a) w) := by
  have hp := h.lt
  have hix := fun W => idx_str (S := S) ha hx W
  have H := Lib.hid h
  clear h
  obtain ⟨q0, q1⟩ := byte_rng hx
  have han := and31 x q0 q1
  rw [hl] at han
  have m0 : 0 ≤ m ∧ m ≤ 7 := by omega
  have y1 : (x == 244) = false := by simp; omega
  have y2 : (x == 245) = false := by simp; omega
  have y3 : (x == 246) = false := by simp; omega
  clear hx hl
  have h5 : ¬ 5 < m := by omega
  obtain ⟨M, rfl⟩ := Int.eq_ofNat_of_zero_le m0.1
  go_enter Tryd.func67, Tryd.ntmps67
  go_wp2_with fail
  refine gen_world (fun W => Rr W p S a v ∧ Below w.heap.size w W ∧ Box W w.heap.size 0 0 ⟨#[]⟩) ⟨H.out.below ((Below.refl _ w).alloc (Nat.le_refl _) _) hp, (Below.refl _ w).alloc (Nat.le_refl _) _, Box.new w 0 0 ⟨#[]⟩⟩ ?_
  rintro W ⟨hR, hB, hX⟩
  have c0 := hR.c0
  have c1 := hR.c1
  have g1 := hR.fz 1
  obtain ⟨b0, b1, b2, f0, f1, f2⟩ := hX.cells
  have HB := Lib.hid (Rx.of_below (p := p) hB)
  have HX := Lib.hid hX
  have HR := Lib.hid hR
  have hne : w.heap.size ≠ p := by omega
  have hpn : p ≠ w.heap.size := by omega
  clear hR hX hB
  go_region
  go_wp2
  go_region
  go_wp2
  go_region
  go_wp2_with fail
  refine gen_world (fun W => Rr W p S a v ∧ Rx w.heap.size p w W ∧ Box W w.heap.size 0 0 ⟨#[]⟩) ⟨HR.out, HB.out.drew.drew.drew, HX.out⟩ ?_
  clear c0 c1 g1 b0 b1 b2 f0 f1 f2 HB HX HR
  rintro W ⟨hR, hB, hX⟩
  have c0 := hR.c0
  have c1 := hR.c1
  have g1 := hR.fz 1
  obtain ⟨b0, b1, b2, f0, f1, f2⟩ := hX.cells
  have hsw := hB.size
  have hBlt := hX.lt
  have hpW := hR.lt
  have HB := Lib.hid hB
  have HX := Lib.hid hX
  have HR := Lib.hid hR
  clear hR hX hB
  have hlen : ((dataI S).drop (a + 1)).length = S.size - (a + 1) := by rw [List.length_drop, dataI_len]
  obtain ⟨ys, hys⟩ : ∃ ys, ((dataI S).drop (a + 1)).take 8 = ys := ⟨_, rfl⟩
  have hyl : ys.length = 8 := by rw [← hys, List.length_take, hlen]; omega
  have hyr : ∀ z ∈ ys, 0 ≤ z ∧ z ≤ 255 := fun z hz => by rw [← hys] at hz; exact dataI_rng S z (List.mem_of_mem_drop (List.mem_of_mem_take hz))
  have hyx : ∀ k : Nat, k < 8 → ∀ W, (Instr.index 9 (.string S) (.int .i64 ((a : Int) + 1 + (k : Int)))).run Tryd.prog W = .ok (.int .u8 (ys.getD k 0)) W := fun k hk W => by
    have h := idx_str (S := S) (i := a + 1 + k) (x := ys.getD k 0) (by omega) (by rw [← hys]; simp [List.getD, hk]) W
    rw [show ((a + 1 + k : Nat) : Int) = (a : Int) + 1 + (k : Int) by omega] at h
    exact h
  have HYX := Lib.hid hyx
  have HYR := Lib.hid hyr
  have HYS := Lib.hid hys
  have HYL := Lib.hid hyl
  clear hyx hyr hys hyl hlen
  go_loopw [8, 9] (fun n i wr => ∃ k : Nat, k ≤ 8 ∧ i = .int .i64 k ∧ n = .int .u64 (beTo ys k) ∧ Rr wr p S a v ∧ Rx w.heap.size p w wr ∧ Box wr w.heap.size 0 0 ⟨#[]⟩) (fun _ i _ => 8 - (intOf i).toNat)
  case atStart => exact ⟨0, Nat.zero_le _, rfl, rfl, HR.out, HB.out, HX.out⟩
  case round =>
    obtain ⟨k, hk, rfl, rfl, hR, hB, hX⟩ := hrel
    have c0 := hR.c0
    have c1 := hR.c1
    have hsw := hB.size
    have hBlt := hX.lt
    have hpW := hR.lt
    have HB2 := Lib.hid hB
    have HX2 := Lib.hid hX
    have HR2 := Lib.hid hR
    by_cases hkS : k < 8
    · have hixk := HYX.out k hkS
      have hbd := beTo_bd ys HYR.out k (by rw [HYL.out]; exact hk)
      have hpow : (256 : Int) ^ k ≤ 256 ^ 7 := by
        have : k ≤ 7 := by omega
        have h9 := Nat.pow_le_pow_right (n := 256) (by decide) this
        have h10 : ((256 ^ k : Nat) : Int) ≤ ((256 ^ 7 : Nat) : Int) := by omega
        simpa using h10
      have hby := HYR.out (ys.getD k 0) (by simp only [List.getD]; rw [List.getElem?_eq_getElem (by rw [HYL.out]; exact hkS)]; exact List.getElem_mem _)
      have hsu := beTo_succ (ys := ys) (k := k) (by rw [HYL.out]; exact hkS)
      have hor := or_step (beTo ys k) (ys.getD k 0) hbd.1 (by omega) hby.1 hby.2
      rw [← hsu] at hor
      obtain ⟨n2, hn2⟩ : ∃ n2, beTo ys (k + 1) = n2 := ⟨_, rfl⟩
      rw [hn2] at hor
      have HN2 := Lib.hid hn2
      generalize ys.getD k 0 = y at *
      have hyw : IntKind.u64.wrap y = y := by rw [IntKind.wrap_u64]; omega
      have HYW := Lib.hid hyw
      have HOR := Lib.hid hor
      clear hR hB hX hbd hpow hby hsu hn2 hyw hor
      go_wp2
      go_region
      go_wp2
      go_roundw
      case rel => exact ⟨k + 1, by omega, by go_num, by rw [HN2.out, HYW.out, HOR.out], HR2.out, HB2.out.drew, HX2.out⟩
      case measure => (simp [intOf] <;> omega)
    · have hkE : k = 8 := by omega
      subst hkE
      have hnv : beTo ys 8 = nv := by rw [← HYS.out]; exact hw
      rw [hnv]
      clear hnv hR hB hX hix hm han hw
      obtain ⟨b0, b1, b2, f0, f1, f2⟩ := HX2.out.cells
      have hF := hd_fin1 HX2.out HB2.out (Nat.le_refl _)
      have HF := Lib.hid hF
      clear hF
      go_wp2
      exact hd_end rfl rfl rfl (HF.out _ _ _ _).1 ⟨rfl, (HF.out _ _ _ _).2, fun h => by cases h⟩

end Go.Proofs.YtepinmeidjlmmaaDoor

/- The reference's head, as one contract. -/
namespace Go.Proofs.YtepinmeidjlmmaaDoor
open Go.RowKit
set_option maxRecDepth 100000

theorem wid_bd (S : ByteArray) (a s : Nat) (h : a + 1 + s ≤ S.size) : 0 ≤ widN (dataI S) a s ∧ widN (dataI S) a s < 256 ^ s := by
  have hl : (((dataI S).drop (a + 1)).take s).length = s := by rw [List.length_take, List.length_drop, dataI_len]; omega
  exact beTo_bd _ (fun z hz => dataI_rng S z (List.mem_of_mem_drop (List.mem_of_mem_take hz))) s (by rw [hl]; exact Nat.le_refl _)

theorem hdr_any (p : Nat) (S : ByteArray) (a : Nat) (v : Value) (w : World) (h : Rr w p S a v) (hs : S.size ≤ 9000000000000000) :
    Calls Tryd.prog 67 #[.pointer (some ⟨p, 0, none⟩)] w (HdP p S v (headE (dataI S) S.size a) w) := by
  unfold headE
  by_cases hN : S.size ≤ a
  · rw [if_pos hN]
    exact hdr_short p S a v w h hN
  rw [if_neg hN]
  have ha : a < S.size := by omega
  obtain ⟨x, hx⟩ : ∃ x, (dataI S).getD a 0 = x := ⟨_, rfl⟩
  obtain ⟨q0, q1⟩ := byte_rng hx
  rw [hx]
  by_cases h1 : x = 244 ∨ x = 245 ∨ x = 246
  · rw [if_pos h1]
    rcases h1 with rfl | rfl | rfl
    · exact hdr_244 p S a v w h ha hs hx
    · exact hdr_245 p S a v w h ha hs hx
    · exact hdr_246 p S a v w h ha hs hx
  rw [if_neg h1]
  by_cases hb : 6 < 1 + x / 32 ∨ 27 < x % 32
  · rw [if_pos hb]
    by_cases h5 : 5 < x / 32
    · exact hdr_bad1 p S a v w h ha x _ _ hx (by omega) rfl rfl h5
    · exact hdr_bad2 p S a v w h ha x _ _ hx rfl rfl (by omega) (by omega)
  rw [if_neg hb]
  by_cases h24 : x % 32 < 24
  · rw [if_pos h24]
    exact hdr_low p S a v w h ha hs x _ _ hx rfl rfl (by omega) h24
  rw [if_neg h24]
  have hj : x % 32 = 24 ∨ x % 32 = 25 ∨ x % 32 = 26 ∨ x % 32 = 27 := by omega
  rcases hj with hj | hj | hj | hj
  · rw [hj, show ((24 : Int) - 24).toNat = 0 from rfl, show 2 ^ 0 = 1 from rfl]
    by_cases hN2 : S.size < a + 1 + 1
    · rw [if_pos hN2]
      exact hdr_wshort1 p S a v w h ha x _ hx rfl hj (by omega) hN2
    rw [if_neg hN2]
    have hbd := wid_bd S a 1 (by omega)
    rw [show (256 : Int) ^ 1 = 256 from by decide] at hbd
    obtain ⟨nv, hnv⟩ : ∃ nv, widN (dataI S) a 1 = nv := ⟨_, rfl⟩
    rw [hnv] at hbd ⊢
    by_cases hlo : 24 ≤ nv
    · have hsz : argSz nv = ((1 : Nat) : Int) := by
        unfold argSz
        repeat' split
        all_goals omega
      rw [if_pos hsz]
      exact hdr_wide1 p S a v w h ha hs x _ hx rfl hj (by omega) (by omega) nv hnv hlo
    · have hsz : ¬ argSz nv = ((1 : Nat) : Int) := by
        unfold argSz
        repeat' split
        all_goals omega
      rw [if_neg hsz]
      exact hdr_wbad1 p S a v w h ha hs x _ hx rfl hj (by omega) (by omega) nv hnv (by omega)
  · rw [hj, show ((25 : Int) - 24).toNat = 1 from rfl, show 2 ^ 1 = 2 from rfl]
    by_cases hN2 : S.size < a + 1 + 2
    · rw [if_pos hN2]
      exact hdr_wshort2 p S a v w h ha x _ hx rfl hj (by omega) hN2
    rw [if_neg hN2]
    have hbd := wid_bd S a 2 (by omega)
    rw [show (256 : Int) ^ 2 = 65536 from by decide] at hbd
    obtain ⟨nv, hnv⟩ : ∃ nv, widN (dataI S) a 2 = nv := ⟨_, rfl⟩
    rw [hnv] at hbd ⊢
    by_cases hlo : 256 ≤ nv
    · have hsz : argSz nv = ((2 : Nat) : Int) := by
        unfold argSz
        repeat' split
        all_goals omega
      rw [if_pos hsz]
      exact hdr_wide2 p S a v w h ha hs x _ hx rfl hj (by omega) (by omega) nv hnv hlo
    · have hsz : ¬ argSz nv = ((2 : Nat) : Int) := by
        unfold argSz
        repeat' split
        all_goals omega
      rw [if_neg hsz]
      exact hdr_wbad2 p S a v w h ha hs x _ hx rfl hj (by omega) (by omega) nv hnv (by omega)
  · rw [hj, show ((26 : Int) - 24).toNat = 2 from rfl, show 2 ^ 2 = 4 from rfl]
    by_cases hN2 : S.size < a + 1 + 4
    · rw [if_pos hN2]
      exact hdr_wshort4 p S a v w h ha x _ hx rfl hj (by omega) hN2
    rw [if_neg hN2]
    have hbd := wid_bd S a 4 (by omega)
    rw [show (256 : Int) ^ 4 = 4294967296 from by decide] at hbd
    obtain ⟨nv, hnv⟩ : ∃ nv, widN (dataI S) a 4 = nv := ⟨_, rfl⟩
    rw [hnv] at hbd ⊢
    by_cases hlo : 65536 ≤ nv
    · have hsz : argSz nv = ((4 : Nat) : Int) := by
        unfold argSz
        repeat' split
        all_goals omega
      rw [if_pos hsz]
      exact hdr_wide4 p S a v w h ha hs x _ hx rfl hj (by omega) (by omega) nv hnv hlo
    · have hsz : ¬ argSz nv = ((4 : Nat) : Int) := by
        unfold argSz
        repeat' split
        all_goals omega
      rw [if_neg hsz]
      exact hdr_wbad4 p S a v w h ha hs x _ hx rfl hj (by omega) (by omega) nv hnv (by omega)
  · rw [hj, show ((27 : Int) - 24).toNat = 3 from rfl, show 2 ^ 3 = 8 from rfl]
    by_cases hN2 : S.size < a + 1 + 8
    · rw [if_pos hN2]
      exact hdr_wshort8 p S a v w h ha x _ hx rfl hj (by omega) hN2
    rw [if_neg hN2]
    have hbd := wid_bd S a 8 (by omega)
    rw [show (256 : Int) ^ 8 = 18446744073709551616 from by decide] at hbd
    obtain ⟨nv, hnv⟩ : ∃ nv, widN (dataI S) a 8 = nv := ⟨_, rfl⟩
    rw [hnv] at hbd ⊢
    by_cases hlo : 4294967296 ≤ nv
    · have hsz : argSz nv = ((8 : Nat) : Int) := by
        unfold argSz
        repeat' split
        all_goals omega
      rw [if_pos hsz]
      exact hdr_wide8 p S a v w h ha hs x _ hx rfl hj (by omega) (by omega) nv hnv hlo
    · have hsz : ¬ argSz nv = ((8 : Nat) : Int) := by
        unfold argSz
        repeat' split
        all_goals omega
      rw [if_neg hsz]
      exact hdr_wbad8 p S a v w h ha hs x _ hx rfl hj (by omega) (by omega) nv hnv (by omega)
end Go.Proofs.YtepinmeidjlmmaaDoor
