/- Joined: Z9, ZA, ZB, ZC. -/
import Derived.Test.YtepinmeidjlmmaaDoorN17
/- The outcomes of an item. -/
namespace Go.Proofs.YtepinmeidjlmmaaDoor
open Go.RowKit
set_option maxRecDepth 100000

set_option maxHeartbeats 2000000 in
theorem ir1false_ok (p : Nat) (S : ByteArray) (a : Nat) (v : Value) (xs : List It) (w : World) (h : Rw w p S a v xs) (hs : S.size ≤ 9000000000000000) (dep : Nat) (bf : ByteArray) (n a2 : Nat) (hh : headE (dataI S) S.size a = (1, (n : Int), 0, a2)) (hat : xs.length < 512) (hdep : dep ≤ 8) :
    Calls Tryd.prog 45 #[.pointer (some ⟨p, 0, none⟩), .int .i64 dep, .bool false, .string bf] w (ItP p S v (0, a2, xs ++ [⟨1, n, ⟨#[]⟩⟩]) w) := by
  have hC := hdr_any p S a v w h.rr hs
  rw [hh] at hC
  have HC := Lib.hid hC
  have H := Lib.hid h
  obtain ⟨A, cap, rfl⟩ := own_form h.own
  clear hC h
  have hat' : (xs.length : Int) < 512 := by omega
  have hdep' : (dep : Int) ≤ 8 := by omega
  go_enter Tryd.func45, Tryd.ntmps45
  go_upto_if 25 with (go_at_call 67; refine HC.out.mono ?_; rintro e w1 ⟨rfl, hx1, hr1⟩; have HB := Lib.hid (bh_new (k := 1) (n := (n : Int)) (d := ⟨#[]⟩) H.out hx1 (hr1 rfl)); clear hx1 hr1)
  refine gen_world (fun W => Bh w p w1.heap.size a2 S (.slice A xs.length cap) xs 1 n ⟨#[]⟩ W) HB.out ?_
  clear HB HC
  generalize w1.heap.size = B
  rintro W hbh
  have HBH := Lib.hid hbh
  obtain ⟨hR, hX, hbx, hB, hpw, _⟩ := hbh
  have q0 := hR.rr.c0
  have q1 := hR.rr.c1
  have q2 := hR.rr.c2
  have g1 := hR.rr.fz 1
  obtain ⟨b0, b1, b2, f0, f1, f2⟩ := hbx.cells
  have hBp : B ≠ p := by omega
  have hpB : p ≠ B := by omega
  clear hR hX hbx
  go_wp2_with fail
  go_quiet (fail)
  go_upto_region 20 with fail
  refine gen_world (fun W => Bh w p B a2 S (.slice A xs.length cap) xs 1 n ⟨#[]⟩ W) (HBH.out.later (below_dn _ _ _)) ?_
  clear HBH q0 q1 q2 g1 b0 b1 b2 f0 f1 f2 W
  rintro W hbh
  have HBH := Lib.hid hbh
  obtain ⟨hR, hX, hbx, _, _, _⟩ := hbh
  have q2 := hR.rr.c2
  obtain ⟨b0, b1, b2, f0, f1, f2⟩ := hbx.cells
  clear hR hX hbx
  go_wp2_with fail
  refine gen_world (fun W => Bh w p B (a2) S (.slice A xs.length cap) xs 1 n ⟨#[]⟩ W) HBH.out ?_
  clear HBH
  rintro W hbh
  have HBH := Lib.hid hbh
  obtain ⟨hR, hX, hbx, _, _, _⟩ := hbh
  have q2 := hR.rr.c2
  have g2 := hR.rr.fz 2
  obtain ⟨b0, b1, b2, f0, f1, f2⟩ := hbx.cells
  have q3 : (W.alloc (.cells #[.int .i64 1, .int .u64 n, .string ⟨#[]⟩] 58)).cell? ⟨p, 2, none⟩ = some (.slice A xs.length cap) := (((Below.refl _ W).alloc (Nat.le_refl _) _).cell (p := ⟨p, 2, none⟩) hR.rr.lt).trans q2
  have HR := Lib.hid hR
  clear hR hX hbx
  go_region_law ((refine step_item rfl _ _ rfl (by exact HR.out.later ((Below.refl _ W).alloc (Nat.le_refl _) _).drew) rfl _ rfl (by exact heap_new _ _) (by omega) ?_; intro g' cap' w' e1 e2 hRw hRi hLs))
  all_goals
    go_wp2_with fail
    refine wp_loop_rounds 1 ?_
    rw [rounds_succ]
    go_wp2
    go_ret
    exact it_done HBH.out ((Below.refl _ W).alloc (Nat.le_refl _) _).drew hRw hRi hLs

set_option maxHeartbeats 2000000 in
theorem ir2false_ok (p : Nat) (S : ByteArray) (a : Nat) (v : Value) (xs : List It) (w : World) (h : Rw w p S a v xs) (hs : S.size ≤ 9000000000000000) (dep : Nat) (bf : ByteArray) (n a2 : Nat) (hh : headE (dataI S) S.size a = (2, (n : Int), 0, a2)) (hat : xs.length < 512) (hdep : dep ≤ 8) :
    Calls Tryd.prog 45 #[.pointer (some ⟨p, 0, none⟩), .int .i64 dep, .bool false, .string bf] w (ItP p S v (0, a2, xs ++ [⟨2, n, ⟨#[]⟩⟩]) w) := by
  have hC := hdr_any p S a v w h.rr hs
  rw [hh] at hC
  have HC := Lib.hid hC
  have H := Lib.hid h
  obtain ⟨A, cap, rfl⟩ := own_form h.own
  clear hC h
  have hat' : (xs.length : Int) < 512 := by omega
  have hdep' : (dep : Int) ≤ 8 := by omega
  go_enter Tryd.func45, Tryd.ntmps45
  go_upto_if 25 with (go_at_call 67; refine HC.out.mono ?_; rintro e w1 ⟨rfl, hx1, hr1⟩; have HB := Lib.hid (bh_new (k := 2) (n := (n : Int)) (d := ⟨#[]⟩) H.out hx1 (hr1 rfl)); clear hx1 hr1)
  refine gen_world (fun W => Bh w p w1.heap.size a2 S (.slice A xs.length cap) xs 2 n ⟨#[]⟩ W) HB.out ?_
  clear HB HC
  generalize w1.heap.size = B
  rintro W hbh
  have HBH := Lib.hid hbh
  obtain ⟨hR, hX, hbx, hB, hpw, _⟩ := hbh
  have q0 := hR.rr.c0
  have q1 := hR.rr.c1
  have q2 := hR.rr.c2
  have g1 := hR.rr.fz 1
  obtain ⟨b0, b1, b2, f0, f1, f2⟩ := hbx.cells
  have hBp : B ≠ p := by omega
  have hpB : p ≠ B := by omega
  clear hR hX hbx
  go_wp2_with fail
  go_quiet (fail)
  go_upto_region 20 with fail
  refine gen_world (fun W => Bh w p B a2 S (.slice A xs.length cap) xs 2 n ⟨#[]⟩ W) (HBH.out.later (below_dn _ _ _)) ?_
  clear HBH q0 q1 q2 g1 b0 b1 b2 f0 f1 f2 W
  rintro W hbh
  have HBH := Lib.hid hbh
  obtain ⟨hR, hX, hbx, _, _, _⟩ := hbh
  have q2 := hR.rr.c2
  obtain ⟨b0, b1, b2, f0, f1, f2⟩ := hbx.cells
  clear hR hX hbx
  go_wp2_with fail
  refine gen_world (fun W => Bh w p B (a2) S (.slice A xs.length cap) xs 2 n ⟨#[]⟩ W) HBH.out ?_
  clear HBH
  rintro W hbh
  have HBH := Lib.hid hbh
  obtain ⟨hR, hX, hbx, _, _, _⟩ := hbh
  have q2 := hR.rr.c2
  have g2 := hR.rr.fz 2
  obtain ⟨b0, b1, b2, f0, f1, f2⟩ := hbx.cells
  have q3 : (W.alloc (.cells #[.int .i64 2, .int .u64 n, .string ⟨#[]⟩] 58)).cell? ⟨p, 2, none⟩ = some (.slice A xs.length cap) := (((Below.refl _ W).alloc (Nat.le_refl _) _).cell (p := ⟨p, 2, none⟩) hR.rr.lt).trans q2
  have HR := Lib.hid hR
  clear hR hX hbx
  go_region_law ((refine step_item rfl _ _ rfl (by exact HR.out.later ((Below.refl _ W).alloc (Nat.le_refl _) _).drew) rfl _ rfl (by exact heap_new _ _) (by omega) ?_; intro g' cap' w' e1 e2 hRw hRi hLs))
  all_goals
    go_wp2_with fail
    refine wp_loop_rounds 1 ?_
    rw [rounds_succ]
    go_wp2
    go_ret
    exact it_done HBH.out ((Below.refl _ W).alloc (Nat.le_refl _) _).drew hRw hRi hLs

set_option maxHeartbeats 2000000 in
theorem ir7false_ok (p : Nat) (S : ByteArray) (a : Nat) (v : Value) (xs : List It) (w : World) (h : Rw w p S a v xs) (hs : S.size ≤ 9000000000000000) (dep : Nat) (bf : ByteArray) (n a2 : Nat) (hh : headE (dataI S) S.size a = (7, (n : Int), 0, a2)) (hat : xs.length < 512) (hdep : dep ≤ 8) :
    Calls Tryd.prog 45 #[.pointer (some ⟨p, 0, none⟩), .int .i64 dep, .bool false, .string bf] w (ItP p S v (0, a2, xs ++ [⟨7, n, ⟨#[]⟩⟩]) w) := by
  have hC := hdr_any p S a v w h.rr hs
  rw [hh] at hC
  have HC := Lib.hid hC
  have H := Lib.hid h
  obtain ⟨A, cap, rfl⟩ := own_form h.own
  clear hC h
  have hat' : (xs.length : Int) < 512 := by omega
  have hdep' : (dep : Int) ≤ 8 := by omega
  go_enter Tryd.func45, Tryd.ntmps45
  go_upto_if 25 with (go_at_call 67; refine HC.out.mono ?_; rintro e w1 ⟨rfl, hx1, hr1⟩; have HB := Lib.hid (bh_new (k := 7) (n := (n : Int)) (d := ⟨#[]⟩) H.out hx1 (hr1 rfl)); clear hx1 hr1)
  refine gen_world (fun W => Bh w p w1.heap.size a2 S (.slice A xs.length cap) xs 7 n ⟨#[]⟩ W) HB.out ?_
  clear HB HC
  generalize w1.heap.size = B
  rintro W hbh
  have HBH := Lib.hid hbh
  obtain ⟨hR, hX, hbx, hB, hpw, _⟩ := hbh
  have q0 := hR.rr.c0
  have q1 := hR.rr.c1
  have q2 := hR.rr.c2
  have g1 := hR.rr.fz 1
  obtain ⟨b0, b1, b2, f0, f1, f2⟩ := hbx.cells
  have hBp : B ≠ p := by omega
  have hpB : p ≠ B := by omega
  clear hR hX hbx
  go_wp2_with fail
  go_quiet (fail)
  go_upto_region 20 with fail
  refine gen_world (fun W => Bh w p B a2 S (.slice A xs.length cap) xs 7 n ⟨#[]⟩ W) (HBH.out.later (below_dn _ _ _)) ?_
  clear HBH q0 q1 q2 g1 b0 b1 b2 f0 f1 f2 W
  rintro W hbh
  have HBH := Lib.hid hbh
  obtain ⟨hR, hX, hbx, _, _, _⟩ := hbh
  have q2 := hR.rr.c2
  obtain ⟨b0, b1, b2, f0, f1, f2⟩ := hbx.cells
  clear hR hX hbx
  go_wp2_with fail
  refine gen_world (fun W => Bh w p B (a2) S (.slice A xs.length cap) xs 7 n ⟨#[]⟩ W) HBH.out ?_
  clear HBH
  rintro W hbh
  have HBH := Lib.hid hbh
  obtain ⟨hR, hX, hbx, _, _, _⟩ := hbh
  have q2 := hR.rr.c2
  have g2 := hR.rr.fz 2
  obtain ⟨b0, b1, b2, f0, f1, f2⟩ := hbx.cells
  have q3 : (W.alloc (.cells #[.int .i64 7, .int .u64 n, .string ⟨#[]⟩] 58)).cell? ⟨p, 2, none⟩ = some (.slice A xs.length cap) := (((Below.refl _ W).alloc (Nat.le_refl _) _).cell (p := ⟨p, 2, none⟩) hR.rr.lt).trans q2
  have HR := Lib.hid hR
  clear hR hX hbx
  go_region_law ((refine step_item rfl _ _ rfl (by exact HR.out.later ((Below.refl _ W).alloc (Nat.le_refl _) _).drew) rfl _ rfl (by exact heap_new _ _) (by omega) ?_; intro g' cap' w' e1 e2 hRw hRi hLs))
  all_goals
    go_wp2_with fail
    refine wp_loop_rounds 1 ?_
    rw [rounds_succ]
    go_wp2
    go_ret
    exact it_done HBH.out ((Below.refl _ W).alloc (Nat.le_refl _) _).drew hRw hRi hLs

set_option maxHeartbeats 2000000 in
theorem ir8false_ok (p : Nat) (S : ByteArray) (a : Nat) (v : Value) (xs : List It) (w : World) (h : Rw w p S a v xs) (hs : S.size ≤ 9000000000000000) (dep : Nat) (bf : ByteArray) (n a2 : Nat) (hh : headE (dataI S) S.size a = (8, (n : Int), 0, a2)) (hat : xs.length < 512) (hdep : dep ≤ 8) :
    Calls Tryd.prog 45 #[.pointer (some ⟨p, 0, none⟩), .int .i64 dep, .bool false, .string bf] w (ItP p S v (0, a2, xs ++ [⟨8, n, ⟨#[]⟩⟩]) w) := by
  have hC := hdr_any p S a v w h.rr hs
  rw [hh] at hC
  have HC := Lib.hid hC
  have H := Lib.hid h
  obtain ⟨A, cap, rfl⟩ := own_form h.own
  clear hC h
  have hat' : (xs.length : Int) < 512 := by omega
  have hdep' : (dep : Int) ≤ 8 := by omega
  go_enter Tryd.func45, Tryd.ntmps45
  go_upto_if 25 with (go_at_call 67; refine HC.out.mono ?_; rintro e w1 ⟨rfl, hx1, hr1⟩; have HB := Lib.hid (bh_new (k := 8) (n := (n : Int)) (d := ⟨#[]⟩) H.out hx1 (hr1 rfl)); clear hx1 hr1)
  refine gen_world (fun W => Bh w p w1.heap.size a2 S (.slice A xs.length cap) xs 8 n ⟨#[]⟩ W) HB.out ?_
  clear HB HC
  generalize w1.heap.size = B
  rintro W hbh
  have HBH := Lib.hid hbh
  obtain ⟨hR, hX, hbx, hB, hpw, _⟩ := hbh
  have q0 := hR.rr.c0
  have q1 := hR.rr.c1
  have q2 := hR.rr.c2
  have g1 := hR.rr.fz 1
  obtain ⟨b0, b1, b2, f0, f1, f2⟩ := hbx.cells
  have hBp : B ≠ p := by omega
  have hpB : p ≠ B := by omega
  clear hR hX hbx
  go_wp2_with fail
  go_quiet (fail)
  go_upto_region 20 with fail
  refine gen_world (fun W => Bh w p B a2 S (.slice A xs.length cap) xs 8 n ⟨#[]⟩ W) (HBH.out.later (below_dn _ _ _)) ?_
  clear HBH q0 q1 q2 g1 b0 b1 b2 f0 f1 f2 W
  rintro W hbh
  have HBH := Lib.hid hbh
  obtain ⟨hR, hX, hbx, _, _, _⟩ := hbh
  have q2 := hR.rr.c2
  obtain ⟨b0, b1, b2, f0, f1, f2⟩ := hbx.cells
  clear hR hX hbx
  go_wp2_with fail
  refine gen_world (fun W => Bh w p B (a2) S (.slice A xs.length cap) xs 8 n ⟨#[]⟩ W) HBH.out ?_
  clear HBH
  rintro W hbh
  have HBH := Lib.hid hbh
  obtain ⟨hR, hX, hbx, _, _, _⟩ := hbh
  have q2 := hR.rr.c2
  have g2 := hR.rr.fz 2
  obtain ⟨b0, b1, b2, f0, f1, f2⟩ := hbx.cells
  have q3 : (W.alloc (.cells #[.int .i64 8, .int .u64 n, .string ⟨#[]⟩] 58)).cell? ⟨p, 2, none⟩ = some (.slice A xs.length cap) := (((Below.refl _ W).alloc (Nat.le_refl _) _).cell (p := ⟨p, 2, none⟩) hR.rr.lt).trans q2
  have HR := Lib.hid hR
  clear hR hX hbx
  go_region_law ((refine step_item rfl _ _ rfl (by exact HR.out.later ((Below.refl _ W).alloc (Nat.le_refl _) _).drew) rfl _ rfl (by exact heap_new _ _) (by omega) ?_; intro g' cap' w' e1 e2 hRw hRi hLs))
  all_goals
    go_wp2_with fail
    refine wp_loop_rounds 1 ?_
    rw [rounds_succ]
    go_wp2
    go_ret
    exact it_done HBH.out ((Below.refl _ W).alloc (Nat.le_refl _) _).drew hRw hRi hLs

end Go.Proofs.YtepinmeidjlmmaaDoor

/- The outcomes of an item. -/
namespace Go.Proofs.YtepinmeidjlmmaaDoor
open Go.RowKit
set_option maxRecDepth 100000

set_option maxHeartbeats 2000000 in
theorem ir1true_ok_e (p : Nat) (S : ByteArray) (a : Nat) (v : Value) (xs : List It) (w : World) (h : Rw w p S a v xs) (hs : S.size ≤ 9000000000000000) (dep : Nat) (bf : ByteArray) (n a2 : Nat) (hh : headE (dataI S) S.size a = (1, (n : Int), 0, a2)) (hat : xs.length < 512) (hdep : dep ≤ 8) (hbe : bf.toList.isEmpty = true) :
    Calls Tryd.prog 45 #[.pointer (some ⟨p, 0, none⟩), .int .i64 dep, .bool true, .string bf] w (ItP p S v (0, a2, xs ++ [⟨1, n, ⟨#[]⟩⟩]) w) := by
  have hC := hdr_any p S a v w h.rr hs
  rw [hh] at hC
  have HC := Lib.hid hC
  have H := Lib.hid h
  obtain ⟨A, cap, rfl⟩ := own_form h.own
  clear hC h
  have hat' : (xs.length : Int) < 512 := by omega
  have hdep' : (dep : Int) ≤ 8 := by omega
  go_enter Tryd.func45, Tryd.ntmps45
  go_upto_if 25 with (go_at_call 67; refine HC.out.mono ?_; rintro e w1 ⟨rfl, hx1, hr1⟩; have HB := Lib.hid (bh_new (k := 1) (n := (n : Int)) (d := ⟨#[]⟩) H.out hx1 (hr1 rfl)); clear hx1 hr1)
  refine gen_world (fun W => Bh w p w1.heap.size a2 S (.slice A xs.length cap) xs 1 n ⟨#[]⟩ W) HB.out ?_
  clear HB HC
  generalize w1.heap.size = B
  rintro W hbh
  have HBH := Lib.hid hbh
  obtain ⟨hR, hX, hbx, hB, hpw, _⟩ := hbh
  have q0 := hR.rr.c0
  have q1 := hR.rr.c1
  have q2 := hR.rr.c2
  have g1 := hR.rr.fz 1
  obtain ⟨b0, b1, b2, f0, f1, f2⟩ := hbx.cells
  have hBp : B ≠ p := by omega
  have hpB : p ≠ B := by omega
  clear hR hX hbx
  go_wp2_with (first | (go_at_call 68; refine (isKey_any _ _).mono ?_; rintro e w2 ⟨rfl, rfl⟩) | fail)
  go_quiet (fail)
  go_upto_region 20 with fail
  refine gen_world (fun W => Bh w p B a2 S (.slice A xs.length cap) xs 1 n ⟨#[]⟩ W) (HBH.out.later (below_dn _ _ _)) ?_
  clear HBH q0 q1 q2 g1 b0 b1 b2 f0 f1 f2 W
  rintro W hbh
  have HBH := Lib.hid hbh
  obtain ⟨hR, hX, hbx, _, _, _⟩ := hbh
  have q2 := hR.rr.c2
  obtain ⟨b0, b1, b2, f0, f1, f2⟩ := hbx.cells
  clear hR hX hbx
  go_wp2_with fail
  refine gen_world (fun W => Bh w p B (a2) S (.slice A xs.length cap) xs 1 n ⟨#[]⟩ W) HBH.out ?_
  clear HBH
  rintro W hbh
  have HBH := Lib.hid hbh
  obtain ⟨hR, hX, hbx, _, _, _⟩ := hbh
  have q2 := hR.rr.c2
  have g2 := hR.rr.fz 2
  obtain ⟨b0, b1, b2, f0, f1, f2⟩ := hbx.cells
  have q3 : (W.alloc (.cells #[.int .i64 1, .int .u64 n, .string ⟨#[]⟩] 58)).cell? ⟨p, 2, none⟩ = some (.slice A xs.length cap) := (((Below.refl _ W).alloc (Nat.le_refl _) _).cell (p := ⟨p, 2, none⟩) hR.rr.lt).trans q2
  have HR := Lib.hid hR
  clear hR hX hbx
  go_region_law ((refine step_item rfl _ _ rfl (by exact HR.out.later ((Below.refl _ W).alloc (Nat.le_refl _) _).drew) rfl _ rfl (by exact heap_new _ _) (by omega) ?_; intro g' cap' w' e1 e2 hRw hRi hLs))
  all_goals
    go_wp2_with fail
    refine wp_loop_rounds 1 ?_
    rw [rounds_succ]
    go_wp2
    go_ret
    exact it_done HBH.out ((Below.refl _ W).alloc (Nat.le_refl _) _).drew hRw hRi hLs

set_option maxHeartbeats 2000000 in
theorem ir2true_ok_e (p : Nat) (S : ByteArray) (a : Nat) (v : Value) (xs : List It) (w : World) (h : Rw w p S a v xs) (hs : S.size ≤ 9000000000000000) (dep : Nat) (bf : ByteArray) (n a2 : Nat) (hh : headE (dataI S) S.size a = (2, (n : Int), 0, a2)) (hat : xs.length < 512) (hdep : dep ≤ 8) (hbe : bf.toList.isEmpty = true) :
    Calls Tryd.prog 45 #[.pointer (some ⟨p, 0, none⟩), .int .i64 dep, .bool true, .string bf] w (ItP p S v (0, a2, xs ++ [⟨2, n, ⟨#[]⟩⟩]) w) := by
  have hC := hdr_any p S a v w h.rr hs
  rw [hh] at hC
  have HC := Lib.hid hC
  have H := Lib.hid h
  obtain ⟨A, cap, rfl⟩ := own_form h.own
  clear hC h
  have hat' : (xs.length : Int) < 512 := by omega
  have hdep' : (dep : Int) ≤ 8 := by omega
  go_enter Tryd.func45, Tryd.ntmps45
  go_upto_if 25 with (go_at_call 67; refine HC.out.mono ?_; rintro e w1 ⟨rfl, hx1, hr1⟩; have HB := Lib.hid (bh_new (k := 2) (n := (n : Int)) (d := ⟨#[]⟩) H.out hx1 (hr1 rfl)); clear hx1 hr1)
  refine gen_world (fun W => Bh w p w1.heap.size a2 S (.slice A xs.length cap) xs 2 n ⟨#[]⟩ W) HB.out ?_
  clear HB HC
  generalize w1.heap.size = B
  rintro W hbh
  have HBH := Lib.hid hbh
  obtain ⟨hR, hX, hbx, hB, hpw, _⟩ := hbh
  have q0 := hR.rr.c0
  have q1 := hR.rr.c1
  have q2 := hR.rr.c2
  have g1 := hR.rr.fz 1
  obtain ⟨b0, b1, b2, f0, f1, f2⟩ := hbx.cells
  have hBp : B ≠ p := by omega
  have hpB : p ≠ B := by omega
  clear hR hX hbx
  go_wp2_with (first | (go_at_call 68; refine (isKey_any _ _).mono ?_; rintro e w2 ⟨rfl, rfl⟩) | fail)
  go_quiet (fail)
  go_upto_region 20 with fail
  refine gen_world (fun W => Bh w p B a2 S (.slice A xs.length cap) xs 2 n ⟨#[]⟩ W) (HBH.out.later (below_dn _ _ _)) ?_
  clear HBH q0 q1 q2 g1 b0 b1 b2 f0 f1 f2 W
  rintro W hbh
  have HBH := Lib.hid hbh
  obtain ⟨hR, hX, hbx, _, _, _⟩ := hbh
  have q2 := hR.rr.c2
  obtain ⟨b0, b1, b2, f0, f1, f2⟩ := hbx.cells
  clear hR hX hbx
  go_wp2_with fail
  refine gen_world (fun W => Bh w p B (a2) S (.slice A xs.length cap) xs 2 n ⟨#[]⟩ W) HBH.out ?_
  clear HBH
  rintro W hbh
  have HBH := Lib.hid hbh
  obtain ⟨hR, hX, hbx, _, _, _⟩ := hbh
  have q2 := hR.rr.c2
  have g2 := hR.rr.fz 2
  obtain ⟨b0, b1, b2, f0, f1, f2⟩ := hbx.cells
  have q3 : (W.alloc (.cells #[.int .i64 2, .int .u64 n, .string ⟨#[]⟩] 58)).cell? ⟨p, 2, none⟩ = some (.slice A xs.length cap) := (((Below.refl _ W).alloc (Nat.le_refl _) _).cell (p := ⟨p, 2, none⟩) hR.rr.lt).trans q2
  have HR := Lib.hid hR
  clear hR hX hbx
  go_region_law ((refine step_item rfl _ _ rfl (by exact HR.out.later ((Below.refl _ W).alloc (Nat.le_refl _) _).drew) rfl _ rfl (by exact heap_new _ _) (by omega) ?_; intro g' cap' w' e1 e2 hRw hRi hLs))
  all_goals
    go_wp2_with fail
    refine wp_loop_rounds 1 ?_
    rw [rounds_succ]
    go_wp2
    go_ret
    exact it_done HBH.out ((Below.refl _ W).alloc (Nat.le_refl _) _).drew hRw hRi hLs

set_option maxHeartbeats 2000000 in
theorem ir1true_ok_l (p : Nat) (S : ByteArray) (a : Nat) (v : Value) (xs : List It) (w : World) (h : Rw w p S a v xs) (hs : S.size ≤ 9000000000000000) (dep : Nat) (bf : ByteArray) (n a2 : Nat) (hh : headE (dataI S) S.size a = (1, (n : Int), 0, a2)) (hat : xs.length < 512) (hdep : dep ≤ 8) (hbe : bf.toList.isEmpty = false) (hl : lessB bf (bytesS 1 n ⟨#[]⟩) = true) :
    Calls Tryd.prog 45 #[.pointer (some ⟨p, 0, none⟩), .int .i64 dep, .bool true, .string bf] w (ItP p S v (0, a2, xs ++ [⟨1, n, ⟨#[]⟩⟩]) w) := by
  have hC := hdr_any p S a v w h.rr hs
  rw [hh] at hC
  have HC := Lib.hid hC
  have H := Lib.hid h
  obtain ⟨A, cap, rfl⟩ := own_form h.own
  clear hC h
  have hat' : (xs.length : Int) < 512 := by omega
  have hdep' : (dep : Int) ≤ 8 := by omega
  have HBY := Lib.hid (fun (W : World) => bytesR_any 1 n ⟨#[]⟩ W (by omega) (by omega) (by omega) (by omega) (by first | exact hdz | decide))
  have HL := Lib.hid hl
  clear hl
  go_enter Tryd.func45, Tryd.ntmps45
  go_upto_if 25 with (go_at_call 67; refine HC.out.mono ?_; rintro e w1 ⟨rfl, hx1, hr1⟩; have HB := Lib.hid (bh_new (k := 1) (n := (n : Int)) (d := ⟨#[]⟩) H.out hx1 (hr1 rfl)); clear hx1 hr1)
  refine gen_world (fun W => Bh w p w1.heap.size a2 S (.slice A xs.length cap) xs 1 n ⟨#[]⟩ W) HB.out ?_
  clear HB HC
  generalize w1.heap.size = B
  rintro W hbh
  have HBH := Lib.hid hbh
  obtain ⟨hR, hX, hbx, hB, hpw, _⟩ := hbh
  have q0 := hR.rr.c0
  have q1 := hR.rr.c1
  have q2 := hR.rr.c2
  have g1 := hR.rr.fz 1
  obtain ⟨b0, b1, b2, f0, f1, f2⟩ := hbx.cells
  have hBp : B ≠ p := by omega
  have hpB : p ≠ B := by omega
  clear hR hX hbx
  go_wp2_with (first | (go_at_call 68; refine (isKey_any _ _).mono ?_; rintro e w2 ⟨rfl, rfl⟩) | fail)
  go_quiet (fail)
  go_upto_region 20 with fail
  refine gen_world (fun W => Bh w p B a2 S (.slice A xs.length cap) xs 1 n ⟨#[]⟩ W) (HBH.out.later (below_dn _ _ _)) ?_
  clear HBH q0 q1 q2 g1 b0 b1 b2 f0 f1 f2 W
  rintro W hbh
  have HBH := Lib.hid hbh
  obtain ⟨hR, hX, hbx, _, _, _⟩ := hbh
  have q2 := hR.rr.c2
  obtain ⟨b0, b1, b2, f0, f1, f2⟩ := hbx.cells
  clear hR hX hbx
  go_wp2_with (first | (go_at_call 38; refine (HBY.out _).mono ?_; rintro e w4 ⟨rfl, hb4⟩; have HB4 := Lib.hid hb4; clear hb4) | (go_at_call 70; refine (less_any _ _ _).mono ?_; rw [HL.out]; rintro e w5 ⟨rfl, rfl⟩) | fail)
  refine gen_world (fun W => Bh w p B (a2) S (.slice A xs.length cap) xs 1 n ⟨#[]⟩ W) (HBH.out.later HB4.out) ?_
  clear HBH
  rintro W hbh
  have HBH := Lib.hid hbh
  obtain ⟨hR, hX, hbx, _, _, _⟩ := hbh
  have q2 := hR.rr.c2
  have g2 := hR.rr.fz 2
  obtain ⟨b0, b1, b2, f0, f1, f2⟩ := hbx.cells
  have q3 : (W.alloc (.cells #[.int .i64 1, .int .u64 n, .string ⟨#[]⟩] 58)).cell? ⟨p, 2, none⟩ = some (.slice A xs.length cap) := (((Below.refl _ W).alloc (Nat.le_refl _) _).cell (p := ⟨p, 2, none⟩) hR.rr.lt).trans q2
  have HR := Lib.hid hR
  clear hR hX hbx
  go_region_law ((refine step_item rfl _ _ rfl (by exact HR.out.later ((Below.refl _ W).alloc (Nat.le_refl _) _).drew) rfl _ rfl (by exact heap_new _ _) (by omega) ?_; intro g' cap' w' e1 e2 hRw hRi hLs))
  all_goals
    go_wp2_with fail
    refine wp_loop_rounds 1 ?_
    rw [rounds_succ]
    go_wp2
    go_ret
    exact it_done HBH.out ((Below.refl _ W).alloc (Nat.le_refl _) _).drew hRw hRi hLs

set_option maxHeartbeats 2000000 in
theorem ir2true_ok_l (p : Nat) (S : ByteArray) (a : Nat) (v : Value) (xs : List It) (w : World) (h : Rw w p S a v xs) (hs : S.size ≤ 9000000000000000) (dep : Nat) (bf : ByteArray) (n a2 : Nat) (hh : headE (dataI S) S.size a = (2, (n : Int), 0, a2)) (hat : xs.length < 512) (hdep : dep ≤ 8) (hbe : bf.toList.isEmpty = false) (hl : lessB bf (bytesS 2 n ⟨#[]⟩) = true) :
    Calls Tryd.prog 45 #[.pointer (some ⟨p, 0, none⟩), .int .i64 dep, .bool true, .string bf] w (ItP p S v (0, a2, xs ++ [⟨2, n, ⟨#[]⟩⟩]) w) := by
  have hC := hdr_any p S a v w h.rr hs
  rw [hh] at hC
  have HC := Lib.hid hC
  have H := Lib.hid h
  obtain ⟨A, cap, rfl⟩ := own_form h.own
  clear hC h
  have hat' : (xs.length : Int) < 512 := by omega
  have hdep' : (dep : Int) ≤ 8 := by omega
  have HBY := Lib.hid (fun (W : World) => bytesR_any 2 n ⟨#[]⟩ W (by omega) (by omega) (by omega) (by omega) (by first | exact hdz | decide))
  have HL := Lib.hid hl
  clear hl
  go_enter Tryd.func45, Tryd.ntmps45
  go_upto_if 25 with (go_at_call 67; refine HC.out.mono ?_; rintro e w1 ⟨rfl, hx1, hr1⟩; have HB := Lib.hid (bh_new (k := 2) (n := (n : Int)) (d := ⟨#[]⟩) H.out hx1 (hr1 rfl)); clear hx1 hr1)
  refine gen_world (fun W => Bh w p w1.heap.size a2 S (.slice A xs.length cap) xs 2 n ⟨#[]⟩ W) HB.out ?_
  clear HB HC
  generalize w1.heap.size = B
  rintro W hbh
  have HBH := Lib.hid hbh
  obtain ⟨hR, hX, hbx, hB, hpw, _⟩ := hbh
  have q0 := hR.rr.c0
  have q1 := hR.rr.c1
  have q2 := hR.rr.c2
  have g1 := hR.rr.fz 1
  obtain ⟨b0, b1, b2, f0, f1, f2⟩ := hbx.cells
  have hBp : B ≠ p := by omega
  have hpB : p ≠ B := by omega
  clear hR hX hbx
  go_wp2_with (first | (go_at_call 68; refine (isKey_any _ _).mono ?_; rintro e w2 ⟨rfl, rfl⟩) | fail)
  go_quiet (fail)
  go_upto_region 20 with fail
  refine gen_world (fun W => Bh w p B a2 S (.slice A xs.length cap) xs 2 n ⟨#[]⟩ W) (HBH.out.later (below_dn _ _ _)) ?_
  clear HBH q0 q1 q2 g1 b0 b1 b2 f0 f1 f2 W
  rintro W hbh
  have HBH := Lib.hid hbh
  obtain ⟨hR, hX, hbx, _, _, _⟩ := hbh
  have q2 := hR.rr.c2
  obtain ⟨b0, b1, b2, f0, f1, f2⟩ := hbx.cells
  clear hR hX hbx
  go_wp2_with (first | (go_at_call 38; refine (HBY.out _).mono ?_; rintro e w4 ⟨rfl, hb4⟩; have HB4 := Lib.hid hb4; clear hb4) | (go_at_call 70; refine (less_any _ _ _).mono ?_; rw [HL.out]; rintro e w5 ⟨rfl, rfl⟩) | fail)
  refine gen_world (fun W => Bh w p B (a2) S (.slice A xs.length cap) xs 2 n ⟨#[]⟩ W) (HBH.out.later HB4.out) ?_
  clear HBH
  rintro W hbh
  have HBH := Lib.hid hbh
  obtain ⟨hR, hX, hbx, _, _, _⟩ := hbh
  have q2 := hR.rr.c2
  have g2 := hR.rr.fz 2
  obtain ⟨b0, b1, b2, f0, f1, f2⟩ := hbx.cells
  have q3 : (W.alloc (.cells #[.int .i64 2, .int .u64 n, .string ⟨#[]⟩] 58)).cell? ⟨p, 2, none⟩ = some (.slice A xs.length cap) := (((Below.refl _ W).alloc (Nat.le_refl _) _).cell (p := ⟨p, 2, none⟩) hR.rr.lt).trans q2
  have HR := Lib.hid hR
  clear hR hX hbx
  go_region_law ((refine step_item rfl _ _ rfl (by exact HR.out.later ((Below.refl _ W).alloc (Nat.le_refl _) _).drew) rfl _ rfl (by exact heap_new _ _) (by omega) ?_; intro g' cap' w' e1 e2 hRw hRi hLs))
  all_goals
    go_wp2_with fail
    refine wp_loop_rounds 1 ?_
    rw [rounds_succ]
    go_wp2
    go_ret
    exact it_done HBH.out ((Below.refl _ W).alloc (Nat.le_refl _) _).drew hRw hRi hLs

end Go.Proofs.YtepinmeidjlmmaaDoor

/- The outcomes of an item. -/
namespace Go.Proofs.YtepinmeidjlmmaaDoor
open Go.RowKit
set_option maxRecDepth 100000

set_option maxHeartbeats 2000000 in
theorem ir3false_ok (p : Nat) (S : ByteArray) (a : Nat) (v : Value) (xs : List It) (w : World) (h : Rw w p S a v xs) (hs : S.size ≤ 9000000000000000) (dep : Nat) (bf : ByteArray) (n a2 : Nat) (hh : headE (dataI S) S.size a = (3, (n : Int), 0, a2)) (hat : xs.length < 512) (hdep : dep ≤ 8) (hn : n ≤ 1024) (hN : a2 + n ≤ S.size) :
    Calls Tryd.prog 45 #[.pointer (some ⟨p, 0, none⟩), .int .i64 dep, .bool false, .string bf] w (ItP p S v (0, a2 + n, xs ++ [⟨3, 0, (S.extract a2 (a2 + n))⟩]) w) := by
  have hC := hdr_any p S a v w h.rr hs
  rw [hh] at hC
  have HC := Lib.hid hC
  have H := Lib.hid h
  obtain ⟨A, cap, rfl⟩ := own_form h.own
  clear hC h
  have hat' : (xs.length : Int) < 512 := by omega
  have hdep' : (dep : Int) ≤ 8 := by omega
  have hn' : (n : Int) ≤ 1024 := by omega
  have hN' : (a2 : Int) + (n : Int) ≤ (S.size : Int) := by omega
  have hdz : (S.extract a2 (a2 + n)).size ≤ 1100 := by rw [ByteArray.size_extract]; omega
  go_enter Tryd.func45, Tryd.ntmps45
  go_upto_if 25 with (go_at_call 67; refine HC.out.mono ?_; rintro e w1 ⟨rfl, hx1, hr1⟩; have HB := Lib.hid (bh_new (k := 3) (n := (n : Int)) (d := ⟨#[]⟩) H.out hx1 (hr1 rfl)); clear hx1 hr1)
  refine gen_world (fun W => Bh w p w1.heap.size a2 S (.slice A xs.length cap) xs 3 n ⟨#[]⟩ W) HB.out ?_
  clear HB HC
  generalize w1.heap.size = B
  rintro W hbh
  have HBH := Lib.hid hbh
  obtain ⟨hR, hX, hbx, hB, hpw, _⟩ := hbh
  have q0 := hR.rr.c0
  have q1 := hR.rr.c1
  have q2 := hR.rr.c2
  have g1 := hR.rr.fz 1
  obtain ⟨b0, b1, b2, f0, f1, f2⟩ := hbx.cells
  have hBp : B ≠ p := by omega
  have hpB : p ≠ B := by omega
  clear hR hX hbx
  go_wp2_with fail
  go_quiet (fail)
  go_wp2_with fail
  go_region
  go_upto_region 20 with fail
  refine gen_world (fun W => Bh w p B (a2 + n) S (.slice A xs.length cap) xs 3 0 (S.extract a2 (a2 + n)) W) (bh_data HBH.out _ (a2 + n) 0 _ (by omega)) ?_
  clear HBH q0 q1 q2 g1 b0 b1 b2 f0 f1 f2 W
  rintro W hbh
  have HBH := Lib.hid hbh
  obtain ⟨hR, hX, hbx, _, _, _⟩ := hbh
  have q2 := hR.rr.c2
  obtain ⟨b0, b1, b2, f0, f1, f2⟩ := hbx.cells
  clear hR hX hbx
  go_wp2_with fail
  refine gen_world (fun W => Bh w p B (a2 + n) S (.slice A xs.length cap) xs 3 0 (S.extract a2 (a2 + n)) W) HBH.out ?_
  clear HBH
  rintro W hbh
  have HBH := Lib.hid hbh
  obtain ⟨hR, hX, hbx, _, _, _⟩ := hbh
  have q2 := hR.rr.c2
  have g2 := hR.rr.fz 2
  obtain ⟨b0, b1, b2, f0, f1, f2⟩ := hbx.cells
  have q3 : (W.alloc (.cells #[.int .i64 3, .int .u64 0, .string (S.extract a2 (a2 + n))] 58)).cell? ⟨p, 2, none⟩ = some (.slice A xs.length cap) := (((Below.refl _ W).alloc (Nat.le_refl _) _).cell (p := ⟨p, 2, none⟩) hR.rr.lt).trans q2
  have HR := Lib.hid hR
  clear hR hX hbx
  go_region_law ((refine step_item rfl _ _ rfl (by exact HR.out.later ((Below.refl _ W).alloc (Nat.le_refl _) _).drew) rfl _ rfl (by exact heap_new _ _) (by omega) ?_; intro g' cap' w' e1 e2 hRw hRi hLs))
  all_goals
    go_wp2_with fail
    refine wp_loop_rounds 1 ?_
    rw [rounds_succ]
    go_wp2
    go_ret
    exact it_done HBH.out ((Below.refl _ W).alloc (Nat.le_refl _) _).drew hRw hRi hLs

set_option maxHeartbeats 2000000 in
theorem ir4false_ok (p : Nat) (S : ByteArray) (a : Nat) (v : Value) (xs : List It) (w : World) (h : Rw w p S a v xs) (hs : S.size ≤ 9000000000000000) (dep : Nat) (bf : ByteArray) (n a2 : Nat) (hh : headE (dataI S) S.size a = (4, (n : Int), 0, a2)) (hat : xs.length < 512) (hdep : dep ≤ 8) (hn : n ≤ 1024) (hN : a2 + n ≤ S.size) (hv : Lib.validD (S.extract a2 (a2 + n)).data.toList = true) :
    Calls Tryd.prog 45 #[.pointer (some ⟨p, 0, none⟩), .int .i64 dep, .bool false, .string bf] w (ItP p S v (0, a2 + n, xs ++ [⟨4, 0, (S.extract a2 (a2 + n))⟩]) w) := by
  have hC := hdr_any p S a v w h.rr hs
  rw [hh] at hC
  have HC := Lib.hid hC
  have H := Lib.hid h
  obtain ⟨A, cap, rfl⟩ := own_form h.own
  clear hC h
  have hat' : (xs.length : Int) < 512 := by omega
  have hdep' : (dep : Int) ≤ 8 := by omega
  have hn' : (n : Int) ≤ 1024 := by omega
  have hN' : (a2 : Int) + (n : Int) ≤ (S.size : Int) := by omega
  have hdz : (S.extract a2 (a2 + n)).size ≤ 1100 := by rw [ByteArray.size_extract]; omega
  have HV := Lib.hid hv
  clear hv
  go_enter Tryd.func45, Tryd.ntmps45
  go_upto_if 25 with (go_at_call 67; refine HC.out.mono ?_; rintro e w1 ⟨rfl, hx1, hr1⟩; have HB := Lib.hid (bh_new (k := 4) (n := (n : Int)) (d := ⟨#[]⟩) H.out hx1 (hr1 rfl)); clear hx1 hr1)
  refine gen_world (fun W => Bh w p w1.heap.size a2 S (.slice A xs.length cap) xs 4 n ⟨#[]⟩ W) HB.out ?_
  clear HB HC
  generalize w1.heap.size = B
  rintro W hbh
  have HBH := Lib.hid hbh
  obtain ⟨hR, hX, hbx, hB, hpw, _⟩ := hbh
  have q0 := hR.rr.c0
  have q1 := hR.rr.c1
  have q2 := hR.rr.c2
  have g1 := hR.rr.fz 1
  obtain ⟨b0, b1, b2, f0, f1, f2⟩ := hbx.cells
  have hBp : B ≠ p := by omega
  have hpB : p ≠ B := by omega
  clear hR hX hbx
  go_wp2_with fail
  go_quiet (fail)
  go_wp2_with fail
  go_region
  go_upto_region 20 with fail
  refine gen_world (fun W => Bh w p B (a2 + n) S (.slice A xs.length cap) xs 4 0 (S.extract a2 (a2 + n)) W) (bh_data HBH.out _ (a2 + n) 0 _ (by omega)) ?_
  clear HBH q0 q1 q2 g1 b0 b1 b2 f0 f1 f2 W
  rintro W hbh
  have HBH := Lib.hid hbh
  obtain ⟨hR, hX, hbx, _, _, _⟩ := hbh
  have q2 := hR.rr.c2
  obtain ⟨b0, b1, b2, f0, f1, f2⟩ := hbx.cells
  clear hR hX hbx
  go_wp2_with (first | (go_at_call 69; refine (valid_any _ _ (by omega) (by exact HBH.out.1.tabs.u8)).mono ?_; rw [HV.out]; rintro e w3 ⟨rfl, hb3⟩; have HB3 := Lib.hid hb3; clear hb3; obtain ⟨x0, x1, x2, _, _, _⟩ := (Bh.later HBH.out HB3.out).2.2.1.cells) | fail)
  refine gen_world (fun W => Bh w p B (a2 + n) S (.slice A xs.length cap) xs 4 0 (S.extract a2 (a2 + n)) W) (HBH.out.later HB3.out) ?_
  clear HBH
  rintro W hbh
  have HBH := Lib.hid hbh
  obtain ⟨hR, hX, hbx, _, _, _⟩ := hbh
  have q2 := hR.rr.c2
  have g2 := hR.rr.fz 2
  obtain ⟨b0, b1, b2, f0, f1, f2⟩ := hbx.cells
  have q3 : (W.alloc (.cells #[.int .i64 4, .int .u64 0, .string (S.extract a2 (a2 + n))] 58)).cell? ⟨p, 2, none⟩ = some (.slice A xs.length cap) := (((Below.refl _ W).alloc (Nat.le_refl _) _).cell (p := ⟨p, 2, none⟩) hR.rr.lt).trans q2
  have HR := Lib.hid hR
  clear hR hX hbx
  go_region_law ((refine step_item rfl _ _ rfl (by exact HR.out.later ((Below.refl _ W).alloc (Nat.le_refl _) _).drew) rfl _ rfl (by exact heap_new _ _) (by omega) ?_; intro g' cap' w' e1 e2 hRw hRi hLs))
  all_goals
    go_wp2_with fail
    refine wp_loop_rounds 1 ?_
    rw [rounds_succ]
    go_wp2
    go_ret
    exact it_done HBH.out ((Below.refl _ W).alloc (Nat.le_refl _) _).drew hRw hRi hLs

end Go.Proofs.YtepinmeidjlmmaaDoor

/- The outcomes of an item. -/
namespace Go.Proofs.YtepinmeidjlmmaaDoor
open Go.RowKit
set_option maxRecDepth 100000

set_option maxHeartbeats 2000000 in
theorem ir4true_ok_e (p : Nat) (S : ByteArray) (a : Nat) (v : Value) (xs : List It) (w : World) (h : Rw w p S a v xs) (hs : S.size ≤ 9000000000000000) (dep : Nat) (bf : ByteArray) (n a2 : Nat) (hh : headE (dataI S) S.size a = (4, (n : Int), 0, a2)) (hat : xs.length < 512) (hdep : dep ≤ 8) (hn : n ≤ 1024) (hN : a2 + n ≤ S.size) (hv : Lib.validD (S.extract a2 (a2 + n)).data.toList = true) (hbe : bf.toList.isEmpty = true) :
    Calls Tryd.prog 45 #[.pointer (some ⟨p, 0, none⟩), .int .i64 dep, .bool true, .string bf] w (ItP p S v (0, a2 + n, xs ++ [⟨4, 0, (S.extract a2 (a2 + n))⟩]) w) := by
  have hC := hdr_any p S a v w h.rr hs
  rw [hh] at hC
  have HC := Lib.hid hC
  have H := Lib.hid h
  obtain ⟨A, cap, rfl⟩ := own_form h.own
  clear hC h
  have hat' : (xs.length : Int) < 512 := by omega
  have hdep' : (dep : Int) ≤ 8 := by omega
  have hn' : (n : Int) ≤ 1024 := by omega
  have hN' : (a2 : Int) + (n : Int) ≤ (S.size : Int) := by omega
  have hdz : (S.extract a2 (a2 + n)).size ≤ 1100 := by rw [ByteArray.size_extract]; omega
  have HV := Lib.hid hv
  clear hv
  go_enter Tryd.func45, Tryd.ntmps45
  go_upto_if 25 with (go_at_call 67; refine HC.out.mono ?_; rintro e w1 ⟨rfl, hx1, hr1⟩; have HB := Lib.hid (bh_new (k := 4) (n := (n : Int)) (d := ⟨#[]⟩) H.out hx1 (hr1 rfl)); clear hx1 hr1)
  refine gen_world (fun W => Bh w p w1.heap.size a2 S (.slice A xs.length cap) xs 4 n ⟨#[]⟩ W) HB.out ?_
  clear HB HC
  generalize w1.heap.size = B
  rintro W hbh
  have HBH := Lib.hid hbh
  obtain ⟨hR, hX, hbx, hB, hpw, _⟩ := hbh
  have q0 := hR.rr.c0
  have q1 := hR.rr.c1
  have q2 := hR.rr.c2
  have g1 := hR.rr.fz 1
  obtain ⟨b0, b1, b2, f0, f1, f2⟩ := hbx.cells
  have hBp : B ≠ p := by omega
  have hpB : p ≠ B := by omega
  clear hR hX hbx
  go_wp2_with (first | (go_at_call 68; refine (isKey_any _ _).mono ?_; rintro e w2 ⟨rfl, rfl⟩) | fail)
  go_quiet (fail)
  go_wp2_with fail
  go_region
  go_upto_region 20 with fail
  refine gen_world (fun W => Bh w p B (a2 + n) S (.slice A xs.length cap) xs 4 0 (S.extract a2 (a2 + n)) W) (bh_data HBH.out _ (a2 + n) 0 _ (by omega)) ?_
  clear HBH q0 q1 q2 g1 b0 b1 b2 f0 f1 f2 W
  rintro W hbh
  have HBH := Lib.hid hbh
  obtain ⟨hR, hX, hbx, _, _, _⟩ := hbh
  have q2 := hR.rr.c2
  obtain ⟨b0, b1, b2, f0, f1, f2⟩ := hbx.cells
  clear hR hX hbx
  go_wp2_with (first | (go_at_call 69; refine (valid_any _ _ (by omega) (by exact HBH.out.1.tabs.u8)).mono ?_; rw [HV.out]; rintro e w3 ⟨rfl, hb3⟩; have HB3 := Lib.hid hb3; clear hb3; obtain ⟨x0, x1, x2, _, _, _⟩ := (Bh.later HBH.out HB3.out).2.2.1.cells) | fail)
  refine gen_world (fun W => Bh w p B (a2 + n) S (.slice A xs.length cap) xs 4 0 (S.extract a2 (a2 + n)) W) (HBH.out.later HB3.out) ?_
  clear HBH
  rintro W hbh
  have HBH := Lib.hid hbh
  obtain ⟨hR, hX, hbx, _, _, _⟩ := hbh
  have q2 := hR.rr.c2
  have g2 := hR.rr.fz 2
  obtain ⟨b0, b1, b2, f0, f1, f2⟩ := hbx.cells
  have q3 : (W.alloc (.cells #[.int .i64 4, .int .u64 0, .string (S.extract a2 (a2 + n))] 58)).cell? ⟨p, 2, none⟩ = some (.slice A xs.length cap) := (((Below.refl _ W).alloc (Nat.le_refl _) _).cell (p := ⟨p, 2, none⟩) hR.rr.lt).trans q2
  have HR := Lib.hid hR
  clear hR hX hbx
  go_region_law ((refine step_item rfl _ _ rfl (by exact HR.out.later ((Below.refl _ W).alloc (Nat.le_refl _) _).drew) rfl _ rfl (by exact heap_new _ _) (by omega) ?_; intro g' cap' w' e1 e2 hRw hRi hLs))
  all_goals
    go_wp2_with fail
    refine wp_loop_rounds 1 ?_
    rw [rounds_succ]
    go_wp2
    go_ret
    exact it_done HBH.out ((Below.refl _ W).alloc (Nat.le_refl _) _).drew hRw hRi hLs

set_option maxHeartbeats 2000000 in
theorem ir4true_ok_l (p : Nat) (S : ByteArray) (a : Nat) (v : Value) (xs : List It) (w : World) (h : Rw w p S a v xs) (hs : S.size ≤ 9000000000000000) (dep : Nat) (bf : ByteArray) (n a2 : Nat) (hh : headE (dataI S) S.size a = (4, (n : Int), 0, a2)) (hat : xs.length < 512) (hdep : dep ≤ 8) (hn : n ≤ 1024) (hN : a2 + n ≤ S.size) (hv : Lib.validD (S.extract a2 (a2 + n)).data.toList = true) (hbe : bf.toList.isEmpty = false) (hl : lessB bf (bytesS 4 0 (S.extract a2 (a2 + n))) = true) :
    Calls Tryd.prog 45 #[.pointer (some ⟨p, 0, none⟩), .int .i64 dep, .bool true, .string bf] w (ItP p S v (0, a2 + n, xs ++ [⟨4, 0, (S.extract a2 (a2 + n))⟩]) w) := by
  have hC := hdr_any p S a v w h.rr hs
  rw [hh] at hC
  have HC := Lib.hid hC
  have H := Lib.hid h
  obtain ⟨A, cap, rfl⟩ := own_form h.own
  clear hC h
  have hat' : (xs.length : Int) < 512 := by omega
  have hdep' : (dep : Int) ≤ 8 := by omega
  have hn' : (n : Int) ≤ 1024 := by omega
  have hN' : (a2 : Int) + (n : Int) ≤ (S.size : Int) := by omega
  have hdz : (S.extract a2 (a2 + n)).size ≤ 1100 := by rw [ByteArray.size_extract]; omega
  have HV := Lib.hid hv
  clear hv
  have HBY := Lib.hid (fun (W : World) => bytesR_any 4 0 (S.extract a2 (a2 + n)) W (by omega) (by omega) (by omega) (by omega) (by first | exact hdz | decide))
  have HL := Lib.hid hl
  clear hl
  go_enter Tryd.func45, Tryd.ntmps45
  go_upto_if 25 with (go_at_call 67; refine HC.out.mono ?_; rintro e w1 ⟨rfl, hx1, hr1⟩; have HB := Lib.hid (bh_new (k := 4) (n := (n : Int)) (d := ⟨#[]⟩) H.out hx1 (hr1 rfl)); clear hx1 hr1)
  refine gen_world (fun W => Bh w p w1.heap.size a2 S (.slice A xs.length cap) xs 4 n ⟨#[]⟩ W) HB.out ?_
  clear HB HC
  generalize w1.heap.size = B
  rintro W hbh
  have HBH := Lib.hid hbh
  obtain ⟨hR, hX, hbx, hB, hpw, _⟩ := hbh
  have q0 := hR.rr.c0
  have q1 := hR.rr.c1
  have q2 := hR.rr.c2
  have g1 := hR.rr.fz 1
  obtain ⟨b0, b1, b2, f0, f1, f2⟩ := hbx.cells
  have hBp : B ≠ p := by omega
  have hpB : p ≠ B := by omega
  clear hR hX hbx
  go_wp2_with (first | (go_at_call 68; refine (isKey_any _ _).mono ?_; rintro e w2 ⟨rfl, rfl⟩) | fail)
  go_quiet (fail)
  go_wp2_with fail
  go_region
  go_upto_region 20 with fail
  refine gen_world (fun W => Bh w p B (a2 + n) S (.slice A xs.length cap) xs 4 0 (S.extract a2 (a2 + n)) W) (bh_data HBH.out _ (a2 + n) 0 _ (by omega)) ?_
  clear HBH q0 q1 q2 g1 b0 b1 b2 f0 f1 f2 W
  rintro W hbh
  have HBH := Lib.hid hbh
  obtain ⟨hR, hX, hbx, _, _, _⟩ := hbh
  have q2 := hR.rr.c2
  obtain ⟨b0, b1, b2, f0, f1, f2⟩ := hbx.cells
  clear hR hX hbx
  go_wp2_with (first | (go_at_call 69; refine (valid_any _ _ (by omega) (by exact HBH.out.1.tabs.u8)).mono ?_; rw [HV.out]; rintro e w3 ⟨rfl, hb3⟩; have HB3 := Lib.hid hb3; clear hb3; obtain ⟨x0, x1, x2, _, _, _⟩ := (Bh.later HBH.out HB3.out).2.2.1.cells) | (go_at_call 38; refine (HBY.out _).mono ?_; rintro e w4 ⟨rfl, hb4⟩; have HB4 := Lib.hid hb4; clear hb4) | (go_at_call 70; refine (less_any _ _ _).mono ?_; rw [HL.out]; rintro e w5 ⟨rfl, rfl⟩) | fail)
  refine gen_world (fun W => Bh w p B (a2 + n) S (.slice A xs.length cap) xs 4 0 (S.extract a2 (a2 + n)) W) ((HBH.out.later HB3.out).later HB4.out) ?_
  clear HBH
  rintro W hbh
  have HBH := Lib.hid hbh
  obtain ⟨hR, hX, hbx, _, _, _⟩ := hbh
  have q2 := hR.rr.c2
  have g2 := hR.rr.fz 2
  obtain ⟨b0, b1, b2, f0, f1, f2⟩ := hbx.cells
  have q3 : (W.alloc (.cells #[.int .i64 4, .int .u64 0, .string (S.extract a2 (a2 + n))] 58)).cell? ⟨p, 2, none⟩ = some (.slice A xs.length cap) := (((Below.refl _ W).alloc (Nat.le_refl _) _).cell (p := ⟨p, 2, none⟩) hR.rr.lt).trans q2
  have HR := Lib.hid hR
  clear hR hX hbx
  go_region_law ((refine step_item rfl _ _ rfl (by exact HR.out.later ((Below.refl _ W).alloc (Nat.le_refl _) _).drew) rfl _ rfl (by exact heap_new _ _) (by omega) ?_; intro g' cap' w' e1 e2 hRw hRi hLs))
  all_goals
    go_wp2_with fail
    refine wp_loop_rounds 1 ?_
    rw [rounds_succ]
    go_wp2
    go_ret
    exact it_done HBH.out ((Below.refl _ W).alloc (Nat.le_refl _) _).drew hRw hRi hLs

end Go.Proofs.YtepinmeidjlmmaaDoor
