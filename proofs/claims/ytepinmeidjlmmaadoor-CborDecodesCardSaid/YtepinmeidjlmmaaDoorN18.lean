/- Joined: Z7, Z8. -/
import Derived.Test.YtepinmeidjlmmaaDoorN17
/- The outcomes of an item. -/
namespace Go.Proofs.YtepinmeidjlmmaaDoor
open Go.RowKit
set_option maxRecDepth 100000

set_option maxHeartbeats 2000000 in
theorem ir3true_kind (p : Nat) (S : ByteArray) (a : Nat) (v : Value) (xs : List It) (w : World) (h : Rw w p S a v xs) (hs : S.size ≤ 9000000000000000) (dep : Nat) (bf : ByteArray) (n a2 : Nat) (hh : headE (dataI S) S.size a = (3, (n : Int), 0, a2)) (hat : xs.length < 512)  :
    Calls Tryd.prog 45 #[.pointer (some ⟨p, 0, none⟩), .int .i64 dep, .bool true, .string bf] w (ItP p S v (3, a, xs) w) := by
  have hC := hdr_any p S a v w h.rr hs
  rw [hh] at hC
  have HC := Lib.hid hC
  have H := Lib.hid h
  obtain ⟨A, cap, rfl⟩ := own_form h.own
  clear hC h
  have hat' : (xs.length : Int) < 512 := by omega
  go_enter Tryd.func45, Tryd.ntmps45
  go_upto_if 25 with (go_at_call 67; refine HC.out.mono ?_; rintro e w1 ⟨rfl, hx1, hr1⟩; have HB := Lib.hid (bh_new (k := 3) (n := (n : Int)) (d := ⟨#[]⟩) H.out hx1 (hr1 rfl)); clear hx1 hr1)
  refine gen_world (fun W => Bh w p w1.heap.size a2 S (.slice A xs.length cap) xs 3 n ⟨#[]⟩ W) HB.out ?_
  clear HB HC
  generalize w1.heap.size = B
  rintro W hbh
  have HBH := Lib.hid hbh
  obtain ⟨hR, hX, hbx, hB, hpw, _⟩ := hbh
  have q0 := hR.rr.c0
  have q1 := hR.rr.c1
  have q2 := hR.rr.c2
  have g1 := hR.rr.fz 1
  obtain ⟨b0, b1, b2, f0, f1, f2⟩ := hbx.cells
  have hBp : B ≠ p := by omega
  have hpB : p ≠ B := by omega
  clear hR hX hbx
  go_wp2_with (first | (go_at_call 68; refine (isKey_any _ _).mono ?_; rintro e w2 ⟨rfl, rfl⟩) | fail)
  all_goals go_ret
  all_goals exact ⟨rfl, Ri.of_rx HBH.out.2.1, fun h0 => by cases h0⟩

set_option maxHeartbeats 2000000 in
theorem ir5true_kind (p : Nat) (S : ByteArray) (a : Nat) (v : Value) (xs : List It) (w : World) (h : Rw w p S a v xs) (hs : S.size ≤ 9000000000000000) (dep : Nat) (bf : ByteArray) (n a2 : Nat) (hh : headE (dataI S) S.size a = (5, (n : Int), 0, a2)) (hat : xs.length < 512)  :
    Calls Tryd.prog 45 #[.pointer (some ⟨p, 0, none⟩), .int .i64 dep, .bool true, .string bf] w (ItP p S v (3, a, xs) w) := by
  have hC := hdr_any p S a v w h.rr hs
  rw [hh] at hC
  have HC := Lib.hid hC
  have H := Lib.hid h
  obtain ⟨A, cap, rfl⟩ := own_form h.own
  clear hC h
  have hat' : (xs.length : Int) < 512 := by omega
  go_enter Tryd.func45, Tryd.ntmps45
  go_upto_if 25 with (go_at_call 67; refine HC.out.mono ?_; rintro e w1 ⟨rfl, hx1, hr1⟩; have HB := Lib.hid (bh_new (k := 5) (n := (n : Int)) (d := ⟨#[]⟩) H.out hx1 (hr1 rfl)); clear hx1 hr1)
  refine gen_world (fun W => Bh w p w1.heap.size a2 S (.slice A xs.length cap) xs 5 n ⟨#[]⟩ W) HB.out ?_
  clear HB HC
  generalize w1.heap.size = B
  rintro W hbh
  have HBH := Lib.hid hbh
  obtain ⟨hR, hX, hbx, hB, hpw, _⟩ := hbh
  have q0 := hR.rr.c0
  have q1 := hR.rr.c1
  have q2 := hR.rr.c2
  have g1 := hR.rr.fz 1
  obtain ⟨b0, b1, b2, f0, f1, f2⟩ := hbx.cells
  have hBp : B ≠ p := by omega
  have hpB : p ≠ B := by omega
  clear hR hX hbx
  go_wp2_with (first | (go_at_call 68; refine (isKey_any _ _).mono ?_; rintro e w2 ⟨rfl, rfl⟩) | fail)
  all_goals go_ret
  all_goals exact ⟨rfl, Ri.of_rx HBH.out.2.1, fun h0 => by cases h0⟩

set_option maxHeartbeats 2000000 in
theorem ir6true_kind (p : Nat) (S : ByteArray) (a : Nat) (v : Value) (xs : List It) (w : World) (h : Rw w p S a v xs) (hs : S.size ≤ 9000000000000000) (dep : Nat) (bf : ByteArray) (n a2 : Nat) (hh : headE (dataI S) S.size a = (6, (n : Int), 0, a2)) (hat : xs.length < 512)  :
    Calls Tryd.prog 45 #[.pointer (some ⟨p, 0, none⟩), .int .i64 dep, .bool true, .string bf] w (ItP p S v (3, a, xs) w) := by
  have hC := hdr_any p S a v w h.rr hs
  rw [hh] at hC
  have HC := Lib.hid hC
  have H := Lib.hid h
  obtain ⟨A, cap, rfl⟩ := own_form h.own
  clear hC h
  have hat' : (xs.length : Int) < 512 := by omega
  go_enter Tryd.func45, Tryd.ntmps45
  go_upto_if 25 with (go_at_call 67; refine HC.out.mono ?_; rintro e w1 ⟨rfl, hx1, hr1⟩; have HB := Lib.hid (bh_new (k := 6) (n := (n : Int)) (d := ⟨#[]⟩) H.out hx1 (hr1 rfl)); clear hx1 hr1)
  refine gen_world (fun W => Bh w p w1.heap.size a2 S (.slice A xs.length cap) xs 6 n ⟨#[]⟩ W) HB.out ?_
  clear HB HC
  generalize w1.heap.size = B
  rintro W hbh
  have HBH := Lib.hid hbh
  obtain ⟨hR, hX, hbx, hB, hpw, _⟩ := hbh
  have q0 := hR.rr.c0
  have q1 := hR.rr.c1
  have q2 := hR.rr.c2
  have g1 := hR.rr.fz 1
  obtain ⟨b0, b1, b2, f0, f1, f2⟩ := hbx.cells
  have hBp : B ≠ p := by omega
  have hpB : p ≠ B := by omega
  clear hR hX hbx
  go_wp2_with (first | (go_at_call 68; refine (isKey_any _ _).mono ?_; rintro e w2 ⟨rfl, rfl⟩) | fail)
  all_goals go_ret
  all_goals exact ⟨rfl, Ri.of_rx HBH.out.2.1, fun h0 => by cases h0⟩

set_option maxHeartbeats 2000000 in
theorem ir7true_kind (p : Nat) (S : ByteArray) (a : Nat) (v : Value) (xs : List It) (w : World) (h : Rw w p S a v xs) (hs : S.size ≤ 9000000000000000) (dep : Nat) (bf : ByteArray) (n a2 : Nat) (hh : headE (dataI S) S.size a = (7, (n : Int), 0, a2)) (hat : xs.length < 512)  :
    Calls Tryd.prog 45 #[.pointer (some ⟨p, 0, none⟩), .int .i64 dep, .bool true, .string bf] w (ItP p S v (3, a, xs) w) := by
  have hC := hdr_any p S a v w h.rr hs
  rw [hh] at hC
  have HC := Lib.hid hC
  have H := Lib.hid h
  obtain ⟨A, cap, rfl⟩ := own_form h.own
  clear hC h
  have hat' : (xs.length : Int) < 512 := by omega
  go_enter Tryd.func45, Tryd.ntmps45
  go_upto_if 25 with (go_at_call 67; refine HC.out.mono ?_; rintro e w1 ⟨rfl, hx1, hr1⟩; have HB := Lib.hid (bh_new (k := 7) (n := (n : Int)) (d := ⟨#[]⟩) H.out hx1 (hr1 rfl)); clear hx1 hr1)
  refine gen_world (fun W => Bh w p w1.heap.size a2 S (.slice A xs.length cap) xs 7 n ⟨#[]⟩ W) HB.out ?_
  clear HB HC
  generalize w1.heap.size = B
  rintro W hbh
  have HBH := Lib.hid hbh
  obtain ⟨hR, hX, hbx, hB, hpw, _⟩ := hbh
  have q0 := hR.rr.c0
  have q1 := hR.rr.c1
  have q2 := hR.rr.c2
  have g1 := hR.rr.fz 1
  obtain ⟨b0, b1, b2, f0, f1, f2⟩ := hbx.cells
  have hBp : B ≠ p := by omega
  have hpB : p ≠ B := by omega
  clear hR hX hbx
  go_wp2_with (first | (go_at_call 68; refine (isKey_any _ _).mono ?_; rintro e w2 ⟨rfl, rfl⟩) | fail)
  all_goals go_ret
  all_goals exact ⟨rfl, Ri.of_rx HBH.out.2.1, fun h0 => by cases h0⟩

set_option maxHeartbeats 2000000 in
theorem ir8true_kind (p : Nat) (S : ByteArray) (a : Nat) (v : Value) (xs : List It) (w : World) (h : Rw w p S a v xs) (hs : S.size ≤ 9000000000000000) (dep : Nat) (bf : ByteArray) (n a2 : Nat) (hh : headE (dataI S) S.size a = (8, (n : Int), 0, a2)) (hat : xs.length < 512)  :
    Calls Tryd.prog 45 #[.pointer (some ⟨p, 0, none⟩), .int .i64 dep, .bool true, .string bf] w (ItP p S v (3, a, xs) w) := by
  have hC := hdr_any p S a v w h.rr hs
  rw [hh] at hC
  have HC := Lib.hid hC
  have H := Lib.hid h
  obtain ⟨A, cap, rfl⟩ := own_form h.own
  clear hC h
  have hat' : (xs.length : Int) < 512 := by omega
  go_enter Tryd.func45, Tryd.ntmps45
  go_upto_if 25 with (go_at_call 67; refine HC.out.mono ?_; rintro e w1 ⟨rfl, hx1, hr1⟩; have HB := Lib.hid (bh_new (k := 8) (n := (n : Int)) (d := ⟨#[]⟩) H.out hx1 (hr1 rfl)); clear hx1 hr1)
  refine gen_world (fun W => Bh w p w1.heap.size a2 S (.slice A xs.length cap) xs 8 n ⟨#[]⟩ W) HB.out ?_
  clear HB HC
  generalize w1.heap.size = B
  rintro W hbh
  have HBH := Lib.hid hbh
  obtain ⟨hR, hX, hbx, hB, hpw, _⟩ := hbh
  have q0 := hR.rr.c0
  have q1 := hR.rr.c1
  have q2 := hR.rr.c2
  have g1 := hR.rr.fz 1
  obtain ⟨b0, b1, b2, f0, f1, f2⟩ := hbx.cells
  have hBp : B ≠ p := by omega
  have hpB : p ≠ B := by omega
  clear hR hX hbx
  go_wp2_with (first | (go_at_call 68; refine (isKey_any _ _).mono ?_; rintro e w2 ⟨rfl, rfl⟩) | fail)
  all_goals go_ret
  all_goals exact ⟨rfl, Ri.of_rx HBH.out.2.1, fun h0 => by cases h0⟩

set_option maxHeartbeats 2000000 in
theorem ir1false_dep (p : Nat) (S : ByteArray) (a : Nat) (v : Value) (xs : List It) (w : World) (h : Rw w p S a v xs) (hs : S.size ≤ 9000000000000000) (dep : Nat) (bf : ByteArray) (n a2 : Nat) (hh : headE (dataI S) S.size a = (1, (n : Int), 0, a2)) (hat : xs.length < 512) (hdep : 8 < dep) :
    Calls Tryd.prog 45 #[.pointer (some ⟨p, 0, none⟩), .int .i64 dep, .bool false, .string bf] w (ItP p S v (5, a, xs) w) := by
  have hC := hdr_any p S a v w h.rr hs
  rw [hh] at hC
  have HC := Lib.hid hC
  have H := Lib.hid h
  obtain ⟨A, cap, rfl⟩ := own_form h.own
  clear hC h
  have hat' : (xs.length : Int) < 512 := by omega
  have hdep' : 8 < (dep : Int) := by omega
  go_enter Tryd.func45, Tryd.ntmps45
  go_upto_if 25 with (go_at_call 67; refine HC.out.mono ?_; rintro e w1 ⟨rfl, hx1, hr1⟩; have HB := Lib.hid (bh_new (k := 1) (n := (n : Int)) (d := ⟨#[]⟩) H.out hx1 (hr1 rfl)); clear hx1 hr1)
  refine gen_world (fun W => Bh w p w1.heap.size a2 S (.slice A xs.length cap) xs 1 n ⟨#[]⟩ W) HB.out ?_
  clear HB HC
  generalize w1.heap.size = B
  rintro W hbh
  have HBH := Lib.hid hbh
  obtain ⟨hR, hX, hbx, hB, hpw, _⟩ := hbh
  have q0 := hR.rr.c0
  have q1 := hR.rr.c1
  have q2 := hR.rr.c2
  have g1 := hR.rr.fz 1
  obtain ⟨b0, b1, b2, f0, f1, f2⟩ := hbx.cells
  have hBp : B ≠ p := by omega
  have hpB : p ≠ B := by omega
  clear hR hX hbx
  go_wp2_with fail
  all_goals go_ret
  all_goals exact ⟨rfl, Ri.of_rx HBH.out.2.1, fun h0 => by cases h0⟩

set_option maxHeartbeats 2000000 in
theorem ir2false_dep (p : Nat) (S : ByteArray) (a : Nat) (v : Value) (xs : List It) (w : World) (h : Rw w p S a v xs) (hs : S.size ≤ 9000000000000000) (dep : Nat) (bf : ByteArray) (n a2 : Nat) (hh : headE (dataI S) S.size a = (2, (n : Int), 0, a2)) (hat : xs.length < 512) (hdep : 8 < dep) :
    Calls Tryd.prog 45 #[.pointer (some ⟨p, 0, none⟩), .int .i64 dep, .bool false, .string bf] w (ItP p S v (5, a, xs) w) := by
  have hC := hdr_any p S a v w h.rr hs
  rw [hh] at hC
  have HC := Lib.hid hC
  have H := Lib.hid h
  obtain ⟨A, cap, rfl⟩ := own_form h.own
  clear hC h
  have hat' : (xs.length : Int) < 512 := by omega
  have hdep' : 8 < (dep : Int) := by omega
  go_enter Tryd.func45, Tryd.ntmps45
  go_upto_if 25 with (go_at_call 67; refine HC.out.mono ?_; rintro e w1 ⟨rfl, hx1, hr1⟩; have HB := Lib.hid (bh_new (k := 2) (n := (n : Int)) (d := ⟨#[]⟩) H.out hx1 (hr1 rfl)); clear hx1 hr1)
  refine gen_world (fun W => Bh w p w1.heap.size a2 S (.slice A xs.length cap) xs 2 n ⟨#[]⟩ W) HB.out ?_
  clear HB HC
  generalize w1.heap.size = B
  rintro W hbh
  have HBH := Lib.hid hbh
  obtain ⟨hR, hX, hbx, hB, hpw, _⟩ := hbh
  have q0 := hR.rr.c0
  have q1 := hR.rr.c1
  have q2 := hR.rr.c2
  have g1 := hR.rr.fz 1
  obtain ⟨b0, b1, b2, f0, f1, f2⟩ := hbx.cells
  have hBp : B ≠ p := by omega
  have hpB : p ≠ B := by omega
  clear hR hX hbx
  go_wp2_with fail
  all_goals go_ret
  all_goals exact ⟨rfl, Ri.of_rx HBH.out.2.1, fun h0 => by cases h0⟩

set_option maxHeartbeats 2000000 in
theorem ir3false_dep (p : Nat) (S : ByteArray) (a : Nat) (v : Value) (xs : List It) (w : World) (h : Rw w p S a v xs) (hs : S.size ≤ 9000000000000000) (dep : Nat) (bf : ByteArray) (n a2 : Nat) (hh : headE (dataI S) S.size a = (3, (n : Int), 0, a2)) (hat : xs.length < 512) (hdep : 8 < dep) :
    Calls Tryd.prog 45 #[.pointer (some ⟨p, 0, none⟩), .int .i64 dep, .bool false, .string bf] w (ItP p S v (5, a, xs) w) := by
  have hC := hdr_any p S a v w h.rr hs
  rw [hh] at hC
  have HC := Lib.hid hC
  have H := Lib.hid h
  obtain ⟨A, cap, rfl⟩ := own_form h.own
  clear hC h
  have hat' : (xs.length : Int) < 512 := by omega
  have hdep' : 8 < (dep : Int) := by omega
  go_enter Tryd.func45, Tryd.ntmps45
  go_upto_if 25 with (go_at_call 67; refine HC.out.mono ?_; rintro e w1 ⟨rfl, hx1, hr1⟩; have HB := Lib.hid (bh_new (k := 3) (n := (n : Int)) (d := ⟨#[]⟩) H.out hx1 (hr1 rfl)); clear hx1 hr1)
  refine gen_world (fun W => Bh w p w1.heap.size a2 S (.slice A xs.length cap) xs 3 n ⟨#[]⟩ W) HB.out ?_
  clear HB HC
  generalize w1.heap.size = B
  rintro W hbh
  have HBH := Lib.hid hbh
  obtain ⟨hR, hX, hbx, hB, hpw, _⟩ := hbh
  have q0 := hR.rr.c0
  have q1 := hR.rr.c1
  have q2 := hR.rr.c2
  have g1 := hR.rr.fz 1
  obtain ⟨b0, b1, b2, f0, f1, f2⟩ := hbx.cells
  have hBp : B ≠ p := by omega
  have hpB : p ≠ B := by omega
  clear hR hX hbx
  go_wp2_with fail
  all_goals go_ret
  all_goals exact ⟨rfl, Ri.of_rx HBH.out.2.1, fun h0 => by cases h0⟩

set_option maxHeartbeats 2000000 in
theorem ir4false_dep (p : Nat) (S : ByteArray) (a : Nat) (v : Value) (xs : List It) (w : World) (h : Rw w p S a v xs) (hs : S.size ≤ 9000000000000000) (dep : Nat) (bf : ByteArray) (n a2 : Nat) (hh : headE (dataI S) S.size a = (4, (n : Int), 0, a2)) (hat : xs.length < 512) (hdep : 8 < dep) :
    Calls Tryd.prog 45 #[.pointer (some ⟨p, 0, none⟩), .int .i64 dep, .bool false, .string bf] w (ItP p S v (5, a, xs) w) := by
  have hC := hdr_any p S a v w h.rr hs
  rw [hh] at hC
  have HC := Lib.hid hC
  have H := Lib.hid h
  obtain ⟨A, cap, rfl⟩ := own_form h.own
  clear hC h
  have hat' : (xs.length : Int) < 512 := by omega
  have hdep' : 8 < (dep : Int) := by omega
  go_enter Tryd.func45, Tryd.ntmps45
  go_upto_if 25 with (go_at_call 67; refine HC.out.mono ?_; rintro e w1 ⟨rfl, hx1, hr1⟩; have HB := Lib.hid (bh_new (k := 4) (n := (n : Int)) (d := ⟨#[]⟩) H.out hx1 (hr1 rfl)); clear hx1 hr1)
  refine gen_world (fun W => Bh w p w1.heap.size a2 S (.slice A xs.length cap) xs 4 n ⟨#[]⟩ W) HB.out ?_
  clear HB HC
  generalize w1.heap.size = B
  rintro W hbh
  have HBH := Lib.hid hbh
  obtain ⟨hR, hX, hbx, hB, hpw, _⟩ := hbh
  have q0 := hR.rr.c0
  have q1 := hR.rr.c1
  have q2 := hR.rr.c2
  have g1 := hR.rr.fz 1
  obtain ⟨b0, b1, b2, f0, f1, f2⟩ := hbx.cells
  have hBp : B ≠ p := by omega
  have hpB : p ≠ B := by omega
  clear hR hX hbx
  go_wp2_with fail
  all_goals go_ret
  all_goals exact ⟨rfl, Ri.of_rx HBH.out.2.1, fun h0 => by cases h0⟩

set_option maxHeartbeats 2000000 in
theorem ir5false_dep (p : Nat) (S : ByteArray) (a : Nat) (v : Value) (xs : List It) (w : World) (h : Rw w p S a v xs) (hs : S.size ≤ 9000000000000000) (dep : Nat) (bf : ByteArray) (n a2 : Nat) (hh : headE (dataI S) S.size a = (5, (n : Int), 0, a2)) (hat : xs.length < 512) (hdep : 8 < dep) :
    Calls Tryd.prog 45 #[.pointer (some ⟨p, 0, none⟩), .int .i64 dep, .bool false, .string bf] w (ItP p S v (5, a, xs) w) := by
  have hC := hdr_any p S a v w h.rr hs
  rw [hh] at hC
  have HC := Lib.hid hC
  have H := Lib.hid h
  obtain ⟨A, cap, rfl⟩ := own_form h.own
  clear hC h
  have hat' : (xs.length : Int) < 512 := by omega
  have hdep' : 8 < (dep : Int) := by omega
  go_enter Tryd.func45, Tryd.ntmps45
  go_upto_if 25 with (go_at_call 67; refine HC.out.mono ?_; rintro e w1 ⟨rfl, hx1, hr1⟩; have HB := Lib.hid (bh_new (k := 5) (n := (n : Int)) (d := ⟨#[]⟩) H.out hx1 (hr1 rfl)); clear hx1 hr1)
  refine gen_world (fun W => Bh w p w1.heap.size a2 S (.slice A xs.length cap) xs 5 n ⟨#[]⟩ W) HB.out ?_
  clear HB HC
  generalize w1.heap.size = B
  rintro W hbh
  have HBH := Lib.hid hbh
  obtain ⟨hR, hX, hbx, hB, hpw, _⟩ := hbh
  have q0 := hR.rr.c0
  have q1 := hR.rr.c1
  have q2 := hR.rr.c2
  have g1 := hR.rr.fz 1
  obtain ⟨b0, b1, b2, f0, f1, f2⟩ := hbx.cells
  have hBp : B ≠ p := by omega
  have hpB : p ≠ B := by omega
  clear hR hX hbx
  go_wp2_with fail
  all_goals go_ret
  all_goals exact ⟨rfl, Ri.of_rx HBH.out.2.1, fun h0 => by cases h0⟩

set_option maxHeartbeats 2000000 in
theorem ir6false_dep (p : Nat) (S : ByteArray) (a : Nat) (v : Value) (xs : List It) (w : World) (h : Rw w p S a v xs) (hs : S.size ≤ 9000000000000000) (dep : Nat) (bf : ByteArray) (n a2 : Nat) (hh : headE (dataI S) S.size a = (6, (n : Int), 0, a2)) (hat : xs.length < 512) (hdep : 8 < dep) :
    Calls Tryd.prog 45 #[.pointer (some ⟨p, 0, none⟩), .int .i64 dep, .bool false, .string bf] w (ItP p S v (5, a, xs) w) := by
  have hC := hdr_any p S a v w h.rr hs
  rw [hh] at hC
  have HC := Lib.hid hC
  have H := Lib.hid h
  obtain ⟨A, cap, rfl⟩ := own_form h.own
  clear hC h
  have hat' : (xs.length : Int) < 512 := by omega
  have hdep' : 8 < (dep : Int) := by omega
  go_enter Tryd.func45, Tryd.ntmps45
  go_upto_if 25 with (go_at_call 67; refine HC.out.mono ?_; rintro e w1 ⟨rfl, hx1, hr1⟩; have HB := Lib.hid (bh_new (k := 6) (n := (n : Int)) (d := ⟨#[]⟩) H.out hx1 (hr1 rfl)); clear hx1 hr1)
  refine gen_world (fun W => Bh w p w1.heap.size a2 S (.slice A xs.length cap) xs 6 n ⟨#[]⟩ W) HB.out ?_
  clear HB HC
  generalize w1.heap.size = B
  rintro W hbh
  have HBH := Lib.hid hbh
  obtain ⟨hR, hX, hbx, hB, hpw, _⟩ := hbh
  have q0 := hR.rr.c0
  have q1 := hR.rr.c1
  have q2 := hR.rr.c2
  have g1 := hR.rr.fz 1
  obtain ⟨b0, b1, b2, f0, f1, f2⟩ := hbx.cells
  have hBp : B ≠ p := by omega
  have hpB : p ≠ B := by omega
  clear hR hX hbx
  go_wp2_with fail
  all_goals go_ret
  all_goals exact ⟨rfl, Ri.of_rx HBH.out.2.1, fun h0 => by cases h0⟩

set_option maxHeartbeats 2000000 in
theorem ir7false_dep (p : Nat) (S : ByteArray) (a : Nat) (v : Value) (xs : List It) (w : World) (h : Rw w p S a v xs) (hs : S.size ≤ 9000000000000000) (dep : Nat) (bf : ByteArray) (n a2 : Nat) (hh : headE (dataI S) S.size a = (7, (n : Int), 0, a2)) (hat : xs.length < 512) (hdep : 8 < dep) :
    Calls Tryd.prog 45 #[.pointer (some ⟨p, 0, none⟩), .int .i64 dep, .bool false, .string bf] w (ItP p S v (5, a, xs) w) := by
  have hC := hdr_any p S a v w h.rr hs
  rw [hh] at hC
  have HC := Lib.hid hC
  have H := Lib.hid h
  obtain ⟨A, cap, rfl⟩ := own_form h.own
  clear hC h
  have hat' : (xs.length : Int) < 512 := by omega
  have hdep' : 8 < (dep : Int) := by omega
  go_enter Tryd.func45, Tryd.ntmps45
  go_upto_if 25 with (go_at_call 67; refine HC.out.mono ?_; rintro e w1 ⟨rfl, hx1, hr1⟩; have HB := Lib.hid (bh_new (k := 7) (n := (n : Int)) (d := ⟨#[]⟩) H.out hx1 (hr1 rfl)); clear hx1 hr1)
  refine gen_world (fun W => Bh w p w1.heap.size a2 S (.slice A xs.length cap) xs 7 n ⟨#[]⟩ W) HB.out ?_
  clear HB HC
  generalize w1.heap.size = B
  rintro W hbh
  have HBH := Lib.hid hbh
  obtain ⟨hR, hX, hbx, hB, hpw, _⟩ := hbh
  have q0 := hR.rr.c0
  have q1 := hR.rr.c1
  have q2 := hR.rr.c2
  have g1 := hR.rr.fz 1
  obtain ⟨b0, b1, b2, f0, f1, f2⟩ := hbx.cells
  have hBp : B ≠ p := by omega
  have hpB : p ≠ B := by omega
  clear hR hX hbx
  go_wp2_with fail
  all_goals go_ret
  all_goals exact ⟨rfl, Ri.of_rx HBH.out.2.1, fun h0 => by cases h0⟩

set_option maxHeartbeats 2000000 in
theorem ir8false_dep (p : Nat) (S : ByteArray) (a : Nat) (v : Value) (xs : List It) (w : World) (h : Rw w p S a v xs) (hs : S.size ≤ 9000000000000000) (dep : Nat) (bf : ByteArray) (n a2 : Nat) (hh : headE (dataI S) S.size a = (8, (n : Int), 0, a2)) (hat : xs.length < 512) (hdep : 8 < dep) :
    Calls Tryd.prog 45 #[.pointer (some ⟨p, 0, none⟩), .int .i64 dep, .bool false, .string bf] w (ItP p S v (5, a, xs) w) := by
  have hC := hdr_any p S a v w h.rr hs
  rw [hh] at hC
  have HC := Lib.hid hC
  have H := Lib.hid h
  obtain ⟨A, cap, rfl⟩ := own_form h.own
  clear hC h
  have hat' : (xs.length : Int) < 512 := by omega
  have hdep' : 8 < (dep : Int) := by omega
  go_enter Tryd.func45, Tryd.ntmps45
  go_upto_if 25 with (go_at_call 67; refine HC.out.mono ?_; rintro e w1 ⟨rfl, hx1, hr1⟩; have HB := Lib.hid (bh_new (k := 8) (n := (n : Int)) (d := ⟨#[]⟩) H.out hx1 (hr1 rfl)); clear hx1 hr1)
  refine gen_world (fun W => Bh w p w1.heap.size a2 S (.slice A xs.length cap) xs 8 n ⟨#[]⟩ W) HB.out ?_
  clear HB HC
  generalize w1.heap.size = B
  rintro W hbh
  have HBH := Lib.hid hbh
  obtain ⟨hR, hX, hbx, hB, hpw, _⟩ := hbh
  have q0 := hR.rr.c0
  have q1 := hR.rr.c1
  have q2 := hR.rr.c2
  have g1 := hR.rr.fz 1
  obtain ⟨b0, b1, b2, f0, f1, f2⟩ := hbx.cells
  have hBp : B ≠ p := by omega
  have hpB : p ≠ B := by omega
  clear hR hX hbx
  go_wp2_with fail
  all_goals go_ret
  all_goals exact ⟨rfl, Ri.of_rx HBH.out.2.1, fun h0 => by cases h0⟩

set_option maxHeartbeats 2000000 in
theorem ir1true_dep (p : Nat) (S : ByteArray) (a : Nat) (v : Value) (xs : List It) (w : World) (h : Rw w p S a v xs) (hs : S.size ≤ 9000000000000000) (dep : Nat) (bf : ByteArray) (n a2 : Nat) (hh : headE (dataI S) S.size a = (1, (n : Int), 0, a2)) (hat : xs.length < 512) (hdep : 8 < dep) :
    Calls Tryd.prog 45 #[.pointer (some ⟨p, 0, none⟩), .int .i64 dep, .bool true, .string bf] w (ItP p S v (5, a, xs) w) := by
  have hC := hdr_any p S a v w h.rr hs
  rw [hh] at hC
  have HC := Lib.hid hC
  have H := Lib.hid h
  obtain ⟨A, cap, rfl⟩ := own_form h.own
  clear hC h
  have hat' : (xs.length : Int) < 512 := by omega
  have hdep' : 8 < (dep : Int) := by omega
  go_enter Tryd.func45, Tryd.ntmps45
  go_upto_if 25 with (go_at_call 67; refine HC.out.mono ?_; rintro e w1 ⟨rfl, hx1, hr1⟩; have HB := Lib.hid (bh_new (k := 1) (n := (n : Int)) (d := ⟨#[]⟩) H.out hx1 (hr1 rfl)); clear hx1 hr1)
  refine gen_world (fun W => Bh w p w1.heap.size a2 S (.slice A xs.length cap) xs 1 n ⟨#[]⟩ W) HB.out ?_
  clear HB HC
  generalize w1.heap.size = B
  rintro W hbh
  have HBH := Lib.hid hbh
  obtain ⟨hR, hX, hbx, hB, hpw, _⟩ := hbh
  have q0 := hR.rr.c0
  have q1 := hR.rr.c1
  have q2 := hR.rr.c2
  have g1 := hR.rr.fz 1
  obtain ⟨b0, b1, b2, f0, f1, f2⟩ := hbx.cells
  have hBp : B ≠ p := by omega
  have hpB : p ≠ B := by omega
  clear hR hX hbx
  go_wp2_with (first | (go_at_call 68; refine (isKey_any _ _).mono ?_; rintro e w2 ⟨rfl, rfl⟩) | fail)
  all_goals go_ret
  all_goals exact ⟨rfl, Ri.of_rx HBH.out.2.1, fun h0 => by cases h0⟩

set_option maxHeartbeats 2000000 in
theorem ir2true_dep (p : Nat) (S : ByteArray) (a : Nat) (v : Value) (xs : List It) (w : World) (h : Rw w p S a v xs) (hs : S.size ≤ 9000000000000000) (dep : Nat) (bf : ByteArray) (n a2 : Nat) (hh : headE (dataI S) S.size a = (2, (n : Int), 0, a2)) (hat : xs.length < 512) (hdep : 8 < dep) :
    Calls Tryd.prog 45 #[.pointer (some ⟨p, 0, none⟩), .int .i64 dep, .bool true, .string bf] w (ItP p S v (5, a, xs) w) := by
  have hC := hdr_any p S a v w h.rr hs
  rw [hh] at hC
  have HC := Lib.hid hC
  have H := Lib.hid h
  obtain ⟨A, cap, rfl⟩ := own_form h.own
  clear hC h
  have hat' : (xs.length : Int) < 512 := by omega
  have hdep' : 8 < (dep : Int) := by omega
  go_enter Tryd.func45, Tryd.ntmps45
  go_upto_if 25 with (go_at_call 67; refine HC.out.mono ?_; rintro e w1 ⟨rfl, hx1, hr1⟩; have HB := Lib.hid (bh_new (k := 2) (n := (n : Int)) (d := ⟨#[]⟩) H.out hx1 (hr1 rfl)); clear hx1 hr1)
  refine gen_world (fun W => Bh w p w1.heap.size a2 S (.slice A xs.length cap) xs 2 n ⟨#[]⟩ W) HB.out ?_
  clear HB HC
  generalize w1.heap.size = B
  rintro W hbh
  have HBH := Lib.hid hbh
  obtain ⟨hR, hX, hbx, hB, hpw, _⟩ := hbh
  have q0 := hR.rr.c0
  have q1 := hR.rr.c1
  have q2 := hR.rr.c2
  have g1 := hR.rr.fz 1
  obtain ⟨b0, b1, b2, f0, f1, f2⟩ := hbx.cells
  have hBp : B ≠ p := by omega
  have hpB : p ≠ B := by omega
  clear hR hX hbx
  go_wp2_with (first | (go_at_call 68; refine (isKey_any _ _).mono ?_; rintro e w2 ⟨rfl, rfl⟩) | fail)
  all_goals go_ret
  all_goals exact ⟨rfl, Ri.of_rx HBH.out.2.1, fun h0 => by cases h0⟩

set_option maxHeartbeats 2000000 in
theorem ir4true_dep (p : Nat) (S : ByteArray) (a : Nat) (v : Value) (xs : List It) (w : World) (h : Rw w p S a v xs) (hs : S.size ≤ 9000000000000000) (dep : Nat) (bf : ByteArray) (n a2 : Nat) (hh : headE (dataI S) S.size a = (4, (n : Int), 0, a2)) (hat : xs.length < 512) (hdep : 8 < dep) :
    Calls Tryd.prog 45 #[.pointer (some ⟨p, 0, none⟩), .int .i64 dep, .bool true, .string bf] w (ItP p S v (5, a, xs) w) := by
  have hC := hdr_any p S a v w h.rr hs
  rw [hh] at hC
  have HC := Lib.hid hC
  have H := Lib.hid h
  obtain ⟨A, cap, rfl⟩ := own_form h.own
  clear hC h
  have hat' : (xs.length : Int) < 512 := by omega
  have hdep' : 8 < (dep : Int) := by omega
  go_enter Tryd.func45, Tryd.ntmps45
  go_upto_if 25 with (go_at_call 67; refine HC.out.mono ?_; rintro e w1 ⟨rfl, hx1, hr1⟩; have HB := Lib.hid (bh_new (k := 4) (n := (n : Int)) (d := ⟨#[]⟩) H.out hx1 (hr1 rfl)); clear hx1 hr1)
  refine gen_world (fun W => Bh w p w1.heap.size a2 S (.slice A xs.length cap) xs 4 n ⟨#[]⟩ W) HB.out ?_
  clear HB HC
  generalize w1.heap.size = B
  rintro W hbh
  have HBH := Lib.hid hbh
  obtain ⟨hR, hX, hbx, hB, hpw, _⟩ := hbh
  have q0 := hR.rr.c0
  have q1 := hR.rr.c1
  have q2 := hR.rr.c2
  have g1 := hR.rr.fz 1
  obtain ⟨b0, b1, b2, f0, f1, f2⟩ := hbx.cells
  have hBp : B ≠ p := by omega
  have hpB : p ≠ B := by omega
  clear hR hX hbx
  go_wp2_with (first | (go_at_call 68; refine (isKey_any _ _).mono ?_; rintro e w2 ⟨rfl, rfl⟩) | fail)
  all_goals go_ret
  all_goals exact ⟨rfl, Ri.of_rx HBH.out.2.1, fun h0 => by cases h0⟩

set_option maxHeartbeats 2000000 in
theorem ir3false_large (p : Nat) (S : ByteArray) (a : Nat) (v : Value) (xs : List It) (w : World) (h : Rw w p S a v xs) (hs : S.size ≤ 9000000000000000) (dep : Nat) (bf : ByteArray) (n a2 : Nat) (hh : headE (dataI S) S.size a = (3, (n : Int), 0, a2)) (hat : xs.length < 512) (hdep : dep ≤ 8) (hn : 1024 < n) :
    Calls Tryd.prog 45 #[.pointer (some ⟨p, 0, none⟩), .int .i64 dep, .bool false, .string bf] w (ItP p S v (8, a, xs) w) := by
  have hC := hdr_any p S a v w h.rr hs
  rw [hh] at hC
  have HC := Lib.hid hC
  have H := Lib.hid h
  obtain ⟨A, cap, rfl⟩ := own_form h.own
  clear hC h
  have hat' : (xs.length : Int) < 512 := by omega
  have hdep' : (dep : Int) ≤ 8 := by omega
  have hn' : 1024 < (n : Int) := by omega
  go_enter Tryd.func45, Tryd.ntmps45
  go_upto_if 25 with (go_at_call 67; refine HC.out.mono ?_; rintro e w1 ⟨rfl, hx1, hr1⟩; have HB := Lib.hid (bh_new (k := 3) (n := (n : Int)) (d := ⟨#[]⟩) H.out hx1 (hr1 rfl)); clear hx1 hr1)
  refine gen_world (fun W => Bh w p w1.heap.size a2 S (.slice A xs.length cap) xs 3 n ⟨#[]⟩ W) HB.out ?_
  clear HB HC
  generalize w1.heap.size = B
  rintro W hbh
  have HBH := Lib.hid hbh
  obtain ⟨hR, hX, hbx, hB, hpw, _⟩ := hbh
  have q0 := hR.rr.c0
  have q1 := hR.rr.c1
  have q2 := hR.rr.c2
  have g1 := hR.rr.fz 1
  obtain ⟨b0, b1, b2, f0, f1, f2⟩ := hbx.cells
  have hBp : B ≠ p := by omega
  have hpB : p ≠ B := by omega
  clear hR hX hbx
  go_wp2_with fail
  all_goals go_ret
  all_goals exact ⟨rfl, Ri.of_rx HBH.out.2.1, fun h0 => by cases h0⟩

set_option maxHeartbeats 2000000 in
theorem ir4false_large (p : Nat) (S : ByteArray) (a : Nat) (v : Value) (xs : List It) (w : World) (h : Rw w p S a v xs) (hs : S.size ≤ 9000000000000000) (dep : Nat) (bf : ByteArray) (n a2 : Nat) (hh : headE (dataI S) S.size a = (4, (n : Int), 0, a2)) (hat : xs.length < 512) (hdep : dep ≤ 8) (hn : 1024 < n) :
    Calls Tryd.prog 45 #[.pointer (some ⟨p, 0, none⟩), .int .i64 dep, .bool false, .string bf] w (ItP p S v (8, a, xs) w) := by
  have hC := hdr_any p S a v w h.rr hs
  rw [hh] at hC
  have HC := Lib.hid hC
  have H := Lib.hid h
  obtain ⟨A, cap, rfl⟩ := own_form h.own
  clear hC h
  have hat' : (xs.length : Int) < 512 := by omega
  have hdep' : (dep : Int) ≤ 8 := by omega
  have hn' : 1024 < (n : Int) := by omega
  go_enter Tryd.func45, Tryd.ntmps45
  go_upto_if 25 with (go_at_call 67; refine HC.out.mono ?_; rintro e w1 ⟨rfl, hx1, hr1⟩; have HB := Lib.hid (bh_new (k := 4) (n := (n : Int)) (d := ⟨#[]⟩) H.out hx1 (hr1 rfl)); clear hx1 hr1)
  refine gen_world (fun W => Bh w p w1.heap.size a2 S (.slice A xs.length cap) xs 4 n ⟨#[]⟩ W) HB.out ?_
  clear HB HC
  generalize w1.heap.size = B
  rintro W hbh
  have HBH := Lib.hid hbh
  obtain ⟨hR, hX, hbx, hB, hpw, _⟩ := hbh
  have q0 := hR.rr.c0
  have q1 := hR.rr.c1
  have q2 := hR.rr.c2
  have g1 := hR.rr.fz 1
  obtain ⟨b0, b1, b2, f0, f1, f2⟩ := hbx.cells
  have hBp : B ≠ p := by omega
  have hpB : p ≠ B := by omega
  clear hR hX hbx
  go_wp2_with fail
  all_goals go_ret
  all_goals exact ⟨rfl, Ri.of_rx HBH.out.2.1, fun h0 => by cases h0⟩

set_option maxHeartbeats 2000000 in
theorem ir5false_large (p : Nat) (S : ByteArray) (a : Nat) (v : Value) (xs : List It) (w : World) (h : Rw w p S a v xs) (hs : S.size ≤ 9000000000000000) (dep : Nat) (bf : ByteArray) (n a2 : Nat) (hh : headE (dataI S) S.size a = (5, (n : Int), 0, a2)) (hat : xs.length < 512) (hdep : dep ≤ 8) (hn : 512 < n) :
    Calls Tryd.prog 45 #[.pointer (some ⟨p, 0, none⟩), .int .i64 dep, .bool false, .string bf] w (ItP p S v (8, a, xs) w) := by
  have hC := hdr_any p S a v w h.rr hs
  rw [hh] at hC
  have HC := Lib.hid hC
  have H := Lib.hid h
  obtain ⟨A, cap, rfl⟩ := own_form h.own
  clear hC h
  have hat' : (xs.length : Int) < 512 := by omega
  have hdep' : (dep : Int) ≤ 8 := by omega
  have hn' : 512 < (n : Int) := by omega
  go_enter Tryd.func45, Tryd.ntmps45
  go_upto_if 25 with (go_at_call 67; refine HC.out.mono ?_; rintro e w1 ⟨rfl, hx1, hr1⟩; have HB := Lib.hid (bh_new (k := 5) (n := (n : Int)) (d := ⟨#[]⟩) H.out hx1 (hr1 rfl)); clear hx1 hr1)
  refine gen_world (fun W => Bh w p w1.heap.size a2 S (.slice A xs.length cap) xs 5 n ⟨#[]⟩ W) HB.out ?_
  clear HB HC
  generalize w1.heap.size = B
  rintro W hbh
  have HBH := Lib.hid hbh
  obtain ⟨hR, hX, hbx, hB, hpw, _⟩ := hbh
  have q0 := hR.rr.c0
  have q1 := hR.rr.c1
  have q2 := hR.rr.c2
  have g1 := hR.rr.fz 1
  obtain ⟨b0, b1, b2, f0, f1, f2⟩ := hbx.cells
  have hBp : B ≠ p := by omega
  have hpB : p ≠ B := by omega
  clear hR hX hbx
  go_wp2_with fail
  all_goals go_ret
  all_goals exact ⟨rfl, Ri.of_rx HBH.out.2.1, fun h0 => by cases h0⟩

set_option maxHeartbeats 2000000 in
theorem ir6false_large (p : Nat) (S : ByteArray) (a : Nat) (v : Value) (xs : List It) (w : World) (h : Rw w p S a v xs) (hs : S.size ≤ 9000000000000000) (dep : Nat) (bf : ByteArray) (n a2 : Nat) (hh : headE (dataI S) S.size a = (6, (n : Int), 0, a2)) (hat : xs.length < 512) (hdep : dep ≤ 8) (hn : 512 < n) :
    Calls Tryd.prog 45 #[.pointer (some ⟨p, 0, none⟩), .int .i64 dep, .bool false, .string bf] w (ItP p S v (8, a, xs) w) := by
  have hC := hdr_any p S a v w h.rr hs
  rw [hh] at hC
  have HC := Lib.hid hC
  have H := Lib.hid h
  obtain ⟨A, cap, rfl⟩ := own_form h.own
  clear hC h
  have hat' : (xs.length : Int) < 512 := by omega
  have hdep' : (dep : Int) ≤ 8 := by omega
  have hn' : 512 < (n : Int) := by omega
  go_enter Tryd.func45, Tryd.ntmps45
  go_upto_if 25 with (go_at_call 67; refine HC.out.mono ?_; rintro e w1 ⟨rfl, hx1, hr1⟩; have HB := Lib.hid (bh_new (k := 6) (n := (n : Int)) (d := ⟨#[]⟩) H.out hx1 (hr1 rfl)); clear hx1 hr1)
  refine gen_world (fun W => Bh w p w1.heap.size a2 S (.slice A xs.length cap) xs 6 n ⟨#[]⟩ W) HB.out ?_
  clear HB HC
  generalize w1.heap.size = B
  rintro W hbh
  have HBH := Lib.hid hbh
  obtain ⟨hR, hX, hbx, hB, hpw, _⟩ := hbh
  have q0 := hR.rr.c0
  have q1 := hR.rr.c1
  have q2 := hR.rr.c2
  have g1 := hR.rr.fz 1
  obtain ⟨b0, b1, b2, f0, f1, f2⟩ := hbx.cells
  have hBp : B ≠ p := by omega
  have hpB : p ≠ B := by omega
  clear hR hX hbx
  go_wp2_with fail
  all_goals go_ret
  all_goals exact ⟨rfl, Ri.of_rx HBH.out.2.1, fun h0 => by cases h0⟩

set_option maxHeartbeats 2000000 in
theorem ir4true_large (p : Nat) (S : ByteArray) (a : Nat) (v : Value) (xs : List It) (w : World) (h : Rw w p S a v xs) (hs : S.size ≤ 9000000000000000) (dep : Nat) (bf : ByteArray) (n a2 : Nat) (hh : headE (dataI S) S.size a = (4, (n : Int), 0, a2)) (hat : xs.length < 512) (hdep : dep ≤ 8) (hn : 1024 < n) :
    Calls Tryd.prog 45 #[.pointer (some ⟨p, 0, none⟩), .int .i64 dep, .bool true, .string bf] w (ItP p S v (8, a, xs) w) := by
  have hC := hdr_any p S a v w h.rr hs
  rw [hh] at hC
  have HC := Lib.hid hC
  have H := Lib.hid h
  obtain ⟨A, cap, rfl⟩ := own_form h.own
  clear hC h
  have hat' : (xs.length : Int) < 512 := by omega
  have hdep' : (dep : Int) ≤ 8 := by omega
  have hn' : 1024 < (n : Int) := by omega
  go_enter Tryd.func45, Tryd.ntmps45
  go_upto_if 25 with (go_at_call 67; refine HC.out.mono ?_; rintro e w1 ⟨rfl, hx1, hr1⟩; have HB := Lib.hid (bh_new (k := 4) (n := (n : Int)) (d := ⟨#[]⟩) H.out hx1 (hr1 rfl)); clear hx1 hr1)
  refine gen_world (fun W => Bh w p w1.heap.size a2 S (.slice A xs.length cap) xs 4 n ⟨#[]⟩ W) HB.out ?_
  clear HB HC
  generalize w1.heap.size = B
  rintro W hbh
  have HBH := Lib.hid hbh
  obtain ⟨hR, hX, hbx, hB, hpw, _⟩ := hbh
  have q0 := hR.rr.c0
  have q1 := hR.rr.c1
  have q2 := hR.rr.c2
  have g1 := hR.rr.fz 1
  obtain ⟨b0, b1, b2, f0, f1, f2⟩ := hbx.cells
  have hBp : B ≠ p := by omega
  have hpB : p ≠ B := by omega
  clear hR hX hbx
  go_wp2_with (first | (go_at_call 68; refine (isKey_any _ _).mono ?_; rintro e w2 ⟨rfl, rfl⟩) | fail)
  all_goals go_ret
  all_goals exact ⟨rfl, Ri.of_rx HBH.out.2.1, fun h0 => by cases h0⟩

end Go.Proofs.YtepinmeidjlmmaaDoor

/- The outcomes of an item. -/
namespace Go.Proofs.YtepinmeidjlmmaaDoor
open Go.RowKit
set_option maxRecDepth 100000

set_option maxHeartbeats 2000000 in
theorem ir3false_short (p : Nat) (S : ByteArray) (a : Nat) (v : Value) (xs : List It) (w : World) (h : Rw w p S a v xs) (hs : S.size ≤ 9000000000000000) (dep : Nat) (bf : ByteArray) (n a2 : Nat) (hh : headE (dataI S) S.size a = (3, (n : Int), 0, a2)) (hat : xs.length < 512) (hdep : dep ≤ 8) (hn : n ≤ 1024) (ha : a2 ≤ S.size) (hN : S.size < a2 + n) :
    Calls Tryd.prog 45 #[.pointer (some ⟨p, 0, none⟩), .int .i64 dep, .bool false, .string bf] w (ItP p S v (1, a, xs) w) := by
  have hC := hdr_any p S a v w h.rr hs
  rw [hh] at hC
  have HC := Lib.hid hC
  have H := Lib.hid h
  obtain ⟨A, cap, rfl⟩ := own_form h.own
  clear hC h
  have hat' : (xs.length : Int) < 512 := by omega
  have hdep' : (dep : Int) ≤ 8 := by omega
  have hn' : (n : Int) ≤ 1024 := by omega
  have hN' : (S.size : Int) - (a2 : Int) < (n : Int) := by omega
  have ha' : (a2 : Int) ≤ (S.size : Int) := by omega
  go_enter Tryd.func45, Tryd.ntmps45
  go_upto_if 25 with (go_at_call 67; refine HC.out.mono ?_; rintro e w1 ⟨rfl, hx1, hr1⟩; have HB := Lib.hid (bh_new (k := 3) (n := (n : Int)) (d := ⟨#[]⟩) H.out hx1 (hr1 rfl)); clear hx1 hr1)
  refine gen_world (fun W => Bh w p w1.heap.size a2 S (.slice A xs.length cap) xs 3 n ⟨#[]⟩ W) HB.out ?_
  clear HB HC
  generalize w1.heap.size = B
  rintro W hbh
  have HBH := Lib.hid hbh
  obtain ⟨hR, hX, hbx, hB, hpw, _⟩ := hbh
  have q0 := hR.rr.c0
  have q1 := hR.rr.c1
  have q2 := hR.rr.c2
  have g1 := hR.rr.fz 1
  obtain ⟨b0, b1, b2, f0, f1, f2⟩ := hbx.cells
  have hBp : B ≠ p := by omega
  have hpB : p ≠ B := by omega
  clear hR hX hbx
  go_wp2_with fail
  go_quiet (fail)
  go_wp2
  all_goals go_ret
  all_goals exact ⟨rfl, Ri.of_rx (HBH.out.2.1.trans (Rx.of_below ⟨rfl, rfl, rfl, Nat.le_refl _, fun _ _ => rfl⟩)), fun h0 => by cases h0⟩

set_option maxHeartbeats 2000000 in
theorem ir4false_short (p : Nat) (S : ByteArray) (a : Nat) (v : Value) (xs : List It) (w : World) (h : Rw w p S a v xs) (hs : S.size ≤ 9000000000000000) (dep : Nat) (bf : ByteArray) (n a2 : Nat) (hh : headE (dataI S) S.size a = (4, (n : Int), 0, a2)) (hat : xs.length < 512) (hdep : dep ≤ 8) (hn : n ≤ 1024) (ha : a2 ≤ S.size) (hN : S.size < a2 + n) :
    Calls Tryd.prog 45 #[.pointer (some ⟨p, 0, none⟩), .int .i64 dep, .bool false, .string bf] w (ItP p S v (1, a, xs) w) := by
  have hC := hdr_any p S a v w h.rr hs
  rw [hh] at hC
  have HC := Lib.hid hC
  have H := Lib.hid h
  obtain ⟨A, cap, rfl⟩ := own_form h.own
  clear hC h
  have hat' : (xs.length : Int) < 512 := by omega
  have hdep' : (dep : Int) ≤ 8 := by omega
  have hn' : (n : Int) ≤ 1024 := by omega
  have hN' : (S.size : Int) - (a2 : Int) < (n : Int) := by omega
  have ha' : (a2 : Int) ≤ (S.size : Int) := by omega
  go_enter Tryd.func45, Tryd.ntmps45
  go_upto_if 25 with (go_at_call 67; refine HC.out.mono ?_; rintro e w1 ⟨rfl, hx1, hr1⟩; have HB := Lib.hid (bh_new (k := 4) (n := (n : Int)) (d := ⟨#[]⟩) H.out hx1 (hr1 rfl)); clear hx1 hr1)
  refine gen_world (fun W => Bh w p w1.heap.size a2 S (.slice A xs.length cap) xs 4 n ⟨#[]⟩ W) HB.out ?_
  clear HB HC
  generalize w1.heap.size = B
  rintro W hbh
  have HBH := Lib.hid hbh
  obtain ⟨hR, hX, hbx, hB, hpw, _⟩ := hbh
  have q0 := hR.rr.c0
  have q1 := hR.rr.c1
  have q2 := hR.rr.c2
  have g1 := hR.rr.fz 1
  obtain ⟨b0, b1, b2, f0, f1, f2⟩ := hbx.cells
  have hBp : B ≠ p := by omega
  have hpB : p ≠ B := by omega
  clear hR hX hbx
  go_wp2_with fail
  go_quiet (fail)
  go_wp2
  all_goals go_ret
  all_goals exact ⟨rfl, Ri.of_rx (HBH.out.2.1.trans (Rx.of_below ⟨rfl, rfl, rfl, Nat.le_refl _, fun _ _ => rfl⟩)), fun h0 => by cases h0⟩

set_option maxHeartbeats 2000000 in
theorem ir4true_short (p : Nat) (S : ByteArray) (a : Nat) (v : Value) (xs : List It) (w : World) (h : Rw w p S a v xs) (hs : S.size ≤ 9000000000000000) (dep : Nat) (bf : ByteArray) (n a2 : Nat) (hh : headE (dataI S) S.size a = (4, (n : Int), 0, a2)) (hat : xs.length < 512) (hdep : dep ≤ 8) (hn : n ≤ 1024) (ha : a2 ≤ S.size) (hN : S.size < a2 + n) :
    Calls Tryd.prog 45 #[.pointer (some ⟨p, 0, none⟩), .int .i64 dep, .bool true, .string bf] w (ItP p S v (1, a, xs) w) := by
  have hC := hdr_any p S a v w h.rr hs
  rw [hh] at hC
  have HC := Lib.hid hC
  have H := Lib.hid h
  obtain ⟨A, cap, rfl⟩ := own_form h.own
  clear hC h
  have hat' : (xs.length : Int) < 512 := by omega
  have hdep' : (dep : Int) ≤ 8 := by omega
  have hn' : (n : Int) ≤ 1024 := by omega
  have hN' : (S.size : Int) - (a2 : Int) < (n : Int) := by omega
  have ha' : (a2 : Int) ≤ (S.size : Int) := by omega
  go_enter Tryd.func45, Tryd.ntmps45
  go_upto_if 25 with (go_at_call 67; refine HC.out.mono ?_; rintro e w1 ⟨rfl, hx1, hr1⟩; have HB := Lib.hid (bh_new (k := 4) (n := (n : Int)) (d := ⟨#[]⟩) H.out hx1 (hr1 rfl)); clear hx1 hr1)
  refine gen_world (fun W => Bh w p w1.heap.size a2 S (.slice A xs.length cap) xs 4 n ⟨#[]⟩ W) HB.out ?_
  clear HB HC
  generalize w1.heap.size = B
  rintro W hbh
  have HBH := Lib.hid hbh
  obtain ⟨hR, hX, hbx, hB, hpw, _⟩ := hbh
  have q0 := hR.rr.c0
  have q1 := hR.rr.c1
  have q2 := hR.rr.c2
  have g1 := hR.rr.fz 1
  obtain ⟨b0, b1, b2, f0, f1, f2⟩ := hbx.cells
  have hBp : B ≠ p := by omega
  have hpB : p ≠ B := by omega
  clear hR hX hbx
  go_wp2_with (first | (go_at_call 68; refine (isKey_any _ _).mono ?_; rintro e w2 ⟨rfl, rfl⟩) | fail)
  go_quiet (fail)
  go_wp2
  all_goals go_ret
  all_goals exact ⟨rfl, Ri.of_rx (HBH.out.2.1.trans (Rx.of_below ⟨rfl, rfl, rfl, Nat.le_refl _, fun _ _ => rfl⟩)), fun h0 => by cases h0⟩

set_option maxHeartbeats 2000000 in
theorem ir4false_text (p : Nat) (S : ByteArray) (a : Nat) (v : Value) (xs : List It) (w : World) (h : Rw w p S a v xs) (hs : S.size ≤ 9000000000000000) (dep : Nat) (bf : ByteArray) (n a2 : Nat) (hh : headE (dataI S) S.size a = (4, (n : Int), 0, a2)) (hat : xs.length < 512) (hdep : dep ≤ 8) (hn : n ≤ 1024) (hN : a2 + n ≤ S.size) (hv : Lib.validD (S.extract a2 (a2 + n)).data.toList = false) :
    Calls Tryd.prog 45 #[.pointer (some ⟨p, 0, none⟩), .int .i64 dep, .bool false, .string bf] w (ItP p S v (6, a, xs) w) := by
  have hC := hdr_any p S a v w h.rr hs
  rw [hh] at hC
  have HC := Lib.hid hC
  have H := Lib.hid h
  obtain ⟨A, cap, rfl⟩ := own_form h.own
  clear hC h
  have hat' : (xs.length : Int) < 512 := by omega
  have hdep' : (dep : Int) ≤ 8 := by omega
  have hn' : (n : Int) ≤ 1024 := by omega
  have hN' : (a2 : Int) + (n : Int) ≤ (S.size : Int) := by omega
  have hdz : (S.extract a2 (a2 + n)).size ≤ 1100 := by rw [ByteArray.size_extract]; omega
  have HV := Lib.hid hv
  clear hv
  go_enter Tryd.func45, Tryd.ntmps45
  go_upto_if 25 with (go_at_call 67; refine HC.out.mono ?_; rintro e w1 ⟨rfl, hx1, hr1⟩; have HB := Lib.hid (bh_new (k := 4) (n := (n : Int)) (d := ⟨#[]⟩) H.out hx1 (hr1 rfl)); clear hx1 hr1)
  refine gen_world (fun W => Bh w p w1.heap.size a2 S (.slice A xs.length cap) xs 4 n ⟨#[]⟩ W) HB.out ?_
  clear HB HC
  generalize w1.heap.size = B
  rintro W hbh
  have HBH := Lib.hid hbh
  obtain ⟨hR, hX, hbx, hB, hpw, _⟩ := hbh
  have q0 := hR.rr.c0
  have q1 := hR.rr.c1
  have q2 := hR.rr.c2
  have g1 := hR.rr.fz 1
  obtain ⟨b0, b1, b2, f0, f1, f2⟩ := hbx.cells
  have hBp : B ≠ p := by omega
  have hpB : p ≠ B := by omega
  clear hR hX hbx
  go_wp2_with fail
  go_quiet (fail)
  go_wp2_with fail
  go_region
  go_upto_region 20 with fail
  refine gen_world (fun W => Bh w p B (a2 + n) S (.slice A xs.length cap) xs 4 0 (S.extract a2 (a2 + n)) W) (bh_data HBH.out _ (a2 + n) 0 _ (by omega)) ?_
  clear HBH q0 q1 q2 g1 b0 b1 b2 f0 f1 f2 W
  rintro W hbh
  have HBH := Lib.hid hbh
  obtain ⟨hR, hX, hbx, _, _, _⟩ := hbh
  have q2 := hR.rr.c2
  obtain ⟨b0, b1, b2, f0, f1, f2⟩ := hbx.cells
  clear hR hX hbx
  go_wp2_with (first | (go_at_call 69; refine (valid_any _ _ (by omega) (by exact HBH.out.1.tabs.u8)).mono ?_; rw [HV.out]; rintro e w3 ⟨rfl, hb3⟩; have HB3 := Lib.hid hb3; clear hb3; obtain ⟨x0, x1, x2, _, _, _⟩ := (Bh.later HBH.out HB3.out).2.2.1.cells) | fail)
  all_goals go_ret
  all_goals exact ⟨rfl, Ri.of_rx (HBH.out.later HB3.out).2.1, fun h0 => by cases h0⟩

set_option maxHeartbeats 2000000 in
theorem ir4true_text (p : Nat) (S : ByteArray) (a : Nat) (v : Value) (xs : List It) (w : World) (h : Rw w p S a v xs) (hs : S.size ≤ 9000000000000000) (dep : Nat) (bf : ByteArray) (n a2 : Nat) (hh : headE (dataI S) S.size a = (4, (n : Int), 0, a2)) (hat : xs.length < 512) (hdep : dep ≤ 8) (hn : n ≤ 1024) (hN : a2 + n ≤ S.size) (hv : Lib.validD (S.extract a2 (a2 + n)).data.toList = false) :
    Calls Tryd.prog 45 #[.pointer (some ⟨p, 0, none⟩), .int .i64 dep, .bool true, .string bf] w (ItP p S v (6, a, xs) w) := by
  have hC := hdr_any p S a v w h.rr hs
  rw [hh] at hC
  have HC := Lib.hid hC
  have H := Lib.hid h
  obtain ⟨A, cap, rfl⟩ := own_form h.own
  clear hC h
  have hat' : (xs.length : Int) < 512 := by omega
  have hdep' : (dep : Int) ≤ 8 := by omega
  have hn' : (n : Int) ≤ 1024 := by omega
  have hN' : (a2 : Int) + (n : Int) ≤ (S.size : Int) := by omega
  have hdz : (S.extract a2 (a2 + n)).size ≤ 1100 := by rw [ByteArray.size_extract]; omega
  have HV := Lib.hid hv
  clear hv
  go_enter Tryd.func45, Tryd.ntmps45
  go_upto_if 25 with (go_at_call 67; refine HC.out.mono ?_; rintro e w1 ⟨rfl, hx1, hr1⟩; have HB := Lib.hid (bh_new (k := 4) (n := (n : Int)) (d := ⟨#[]⟩) H.out hx1 (hr1 rfl)); clear hx1 hr1)
  refine gen_world (fun W => Bh w p w1.heap.size a2 S (.slice A xs.length cap) xs 4 n ⟨#[]⟩ W) HB.out ?_
  clear HB HC
  generalize w1.heap.size = B
  rintro W hbh
  have HBH := Lib.hid hbh
  obtain ⟨hR, hX, hbx, hB, hpw, _⟩ := hbh
  have q0 := hR.rr.c0
  have q1 := hR.rr.c1
  have q2 := hR.rr.c2
  have g1 := hR.rr.fz 1
  obtain ⟨b0, b1, b2, f0, f1, f2⟩ := hbx.cells
  have hBp : B ≠ p := by omega
  have hpB : p ≠ B := by omega
  clear hR hX hbx
  go_wp2_with (first | (go_at_call 68; refine (isKey_any _ _).mono ?_; rintro e w2 ⟨rfl, rfl⟩) | fail)
  go_quiet (fail)
  go_wp2_with fail
  go_region
  go_upto_region 20 with fail
  refine gen_world (fun W => Bh w p B (a2 + n) S (.slice A xs.length cap) xs 4 0 (S.extract a2 (a2 + n)) W) (bh_data HBH.out _ (a2 + n) 0 _ (by omega)) ?_
  clear HBH q0 q1 q2 g1 b0 b1 b2 f0 f1 f2 W
  rintro W hbh
  have HBH := Lib.hid hbh
  obtain ⟨hR, hX, hbx, _, _, _⟩ := hbh
  have q2 := hR.rr.c2
  obtain ⟨b0, b1, b2, f0, f1, f2⟩ := hbx.cells
  clear hR hX hbx
  go_wp2_with (first | (go_at_call 69; refine (valid_any _ _ (by omega) (by exact HBH.out.1.tabs.u8)).mono ?_; rw [HV.out]; rintro e w3 ⟨rfl, hb3⟩; have HB3 := Lib.hid hb3; clear hb3; obtain ⟨x0, x1, x2, _, _, _⟩ := (Bh.later HBH.out HB3.out).2.2.1.cells) | fail)
  all_goals go_ret
  all_goals exact ⟨rfl, Ri.of_rx (HBH.out.later HB3.out).2.1, fun h0 => by cases h0⟩

set_option maxHeartbeats 2000000 in
theorem ir1true_order (p : Nat) (S : ByteArray) (a : Nat) (v : Value) (xs : List It) (w : World) (h : Rw w p S a v xs) (hs : S.size ≤ 9000000000000000) (dep : Nat) (bf : ByteArray) (n a2 : Nat) (hh : headE (dataI S) S.size a = (1, (n : Int), 0, a2)) (hat : xs.length < 512) (hdep : dep ≤ 8) (hbe : bf.toList.isEmpty = false) (hl : lessB bf (bytesS 1 n ⟨#[]⟩) = false) :
    Calls Tryd.prog 45 #[.pointer (some ⟨p, 0, none⟩), .int .i64 dep, .bool true, .string bf] w (ItP p S v (7, a, xs) w) := by
  have hC := hdr_any p S a v w h.rr hs
  rw [hh] at hC
  have HC := Lib.hid hC
  have H := Lib.hid h
  obtain ⟨A, cap, rfl⟩ := own_form h.own
  clear hC h
  have hat' : (xs.length : Int) < 512 := by omega
  have hdep' : (dep : Int) ≤ 8 := by omega
  have HBY := Lib.hid (fun (W : World) => bytesR_any 1 n ⟨#[]⟩ W (by omega) (by omega) (by omega) (by omega) (by first | exact hdz | decide))
  have HL := Lib.hid hl
  clear hl
  go_enter Tryd.func45, Tryd.ntmps45
  go_upto_if 25 with (go_at_call 67; refine HC.out.mono ?_; rintro e w1 ⟨rfl, hx1, hr1⟩; have HB := Lib.hid (bh_new (k := 1) (n := (n : Int)) (d := ⟨#[]⟩) H.out hx1 (hr1 rfl)); clear hx1 hr1)
  refine gen_world (fun W => Bh w p w1.heap.size a2 S (.slice A xs.length cap) xs 1 n ⟨#[]⟩ W) HB.out ?_
  clear HB HC
  generalize w1.heap.size = B
  rintro W hbh
  have HBH := Lib.hid hbh
  obtain ⟨hR, hX, hbx, hB, hpw, _⟩ := hbh
  have q0 := hR.rr.c0
  have q1 := hR.rr.c1
  have q2 := hR.rr.c2
  have g1 := hR.rr.fz 1
  obtain ⟨b0, b1, b2, f0, f1, f2⟩ := hbx.cells
  have hBp : B ≠ p := by omega
  have hpB : p ≠ B := by omega
  clear hR hX hbx
  go_wp2_with (first | (go_at_call 68; refine (isKey_any _ _).mono ?_; rintro e w2 ⟨rfl, rfl⟩) | fail)
  go_quiet (fail)
  go_upto_region 20 with fail
  refine gen_world (fun W => Bh w p B a2 S (.slice A xs.length cap) xs 1 n ⟨#[]⟩ W) (HBH.out.later (below_dn _ _ _)) ?_
  clear HBH q0 q1 q2 g1 b0 b1 b2 f0 f1 f2 W
  rintro W hbh
  have HBH := Lib.hid hbh
  obtain ⟨hR, hX, hbx, _, _, _⟩ := hbh
  have q2 := hR.rr.c2
  obtain ⟨b0, b1, b2, f0, f1, f2⟩ := hbx.cells
  clear hR hX hbx
  go_wp2_with (first | (go_at_call 38; refine (HBY.out _).mono ?_; rintro e w4 ⟨rfl, hb4⟩; have HB4 := Lib.hid hb4; clear hb4) | (go_at_call 70; refine (less_any _ _ _).mono ?_; rw [HL.out]; rintro e w5 ⟨rfl, rfl⟩) | fail)
  all_goals go_ret
  all_goals exact ⟨rfl, Ri.of_rx (HBH.out.later HB4.out).2.1, fun h0 => by cases h0⟩

set_option maxHeartbeats 2000000 in
theorem ir2true_order (p : Nat) (S : ByteArray) (a : Nat) (v : Value) (xs : List It) (w : World) (h : Rw w p S a v xs) (hs : S.size ≤ 9000000000000000) (dep : Nat) (bf : ByteArray) (n a2 : Nat) (hh : headE (dataI S) S.size a = (2, (n : Int), 0, a2)) (hat : xs.length < 512) (hdep : dep ≤ 8) (hbe : bf.toList.isEmpty = false) (hl : lessB bf (bytesS 2 n ⟨#[]⟩) = false) :
    Calls Tryd.prog 45 #[.pointer (some ⟨p, 0, none⟩), .int .i64 dep, .bool true, .string bf] w (ItP p S v (7, a, xs) w) := by
  have hC := hdr_any p S a v w h.rr hs
  rw [hh] at hC
  have HC := Lib.hid hC
  have H := Lib.hid h
  obtain ⟨A, cap, rfl⟩ := own_form h.own
  clear hC h
  have hat' : (xs.length : Int) < 512 := by omega
  have hdep' : (dep : Int) ≤ 8 := by omega
  have HBY := Lib.hid (fun (W : World) => bytesR_any 2 n ⟨#[]⟩ W (by omega) (by omega) (by omega) (by omega) (by first | exact hdz | decide))
  have HL := Lib.hid hl
  clear hl
  go_enter Tryd.func45, Tryd.ntmps45
  go_upto_if 25 with (go_at_call 67; refine HC.out.mono ?_; rintro e w1 ⟨rfl, hx1, hr1⟩; have HB := Lib.hid (bh_new (k := 2) (n := (n : Int)) (d := ⟨#[]⟩) H.out hx1 (hr1 rfl)); clear hx1 hr1)
  refine gen_world (fun W => Bh w p w1.heap.size a2 S (.slice A xs.length cap) xs 2 n ⟨#[]⟩ W) HB.out ?_
  clear HB HC
  generalize w1.heap.size = B
  rintro W hbh
  have HBH := Lib.hid hbh
  obtain ⟨hR, hX, hbx, hB, hpw, _⟩ := hbh
  have q0 := hR.rr.c0
  have q1 := hR.rr.c1
  have q2 := hR.rr.c2
  have g1 := hR.rr.fz 1
  obtain ⟨b0, b1, b2, f0, f1, f2⟩ := hbx.cells
  have hBp : B ≠ p := by omega
  have hpB : p ≠ B := by omega
  clear hR hX hbx
  go_wp2_with (first | (go_at_call 68; refine (isKey_any _ _).mono ?_; rintro e w2 ⟨rfl, rfl⟩) | fail)
  go_quiet (fail)
  go_upto_region 20 with fail
  refine gen_world (fun W => Bh w p B a2 S (.slice A xs.length cap) xs 2 n ⟨#[]⟩ W) (HBH.out.later (below_dn _ _ _)) ?_
  clear HBH q0 q1 q2 g1 b0 b1 b2 f0 f1 f2 W
  rintro W hbh
  have HBH := Lib.hid hbh
  obtain ⟨hR, hX, hbx, _, _, _⟩ := hbh
  have q2 := hR.rr.c2
  obtain ⟨b0, b1, b2, f0, f1, f2⟩ := hbx.cells
  clear hR hX hbx
  go_wp2_with (first | (go_at_call 38; refine (HBY.out _).mono ?_; rintro e w4 ⟨rfl, hb4⟩; have HB4 := Lib.hid hb4; clear hb4) | (go_at_call 70; refine (less_any _ _ _).mono ?_; rw [HL.out]; rintro e w5 ⟨rfl, rfl⟩) | fail)
  all_goals go_ret
  all_goals exact ⟨rfl, Ri.of_rx (HBH.out.later HB4.out).2.1, fun h0 => by cases h0⟩

set_option maxHeartbeats 2000000 in
theorem ir4true_order (p : Nat) (S : ByteArray) (a : Nat) (v : Value) (xs : List It) (w : World) (h : Rw w p S a v xs) (hs : S.size ≤ 9000000000000000) (dep : Nat) (bf : ByteArray) (n a2 : Nat) (hh : headE (dataI S) S.size a = (4, (n : Int), 0, a2)) (hat : xs.length < 512) (hdep : dep ≤ 8) (hn : n ≤ 1024) (hN : a2 + n ≤ S.size) (hv : Lib.validD (S.extract a2 (a2 + n)).data.toList = true) (hbe : bf.toList.isEmpty = false) (hl : lessB bf (bytesS 4 0 (S.extract a2 (a2 + n))) = false) :
    Calls Tryd.prog 45 #[.pointer (some ⟨p, 0, none⟩), .int .i64 dep, .bool true, .string bf] w (ItP p S v (7, a, xs) w) := by
  have hC := hdr_any p S a v w h.rr hs
  rw [hh] at hC
  have HC := Lib.hid hC
  have H := Lib.hid h
  obtain ⟨A, cap, rfl⟩ := own_form h.own
  clear hC h
  have hat' : (xs.length : Int) < 512 := by omega
  have hdep' : (dep : Int) ≤ 8 := by omega
  have hn' : (n : Int) ≤ 1024 := by omega
  have hN' : (a2 : Int) + (n : Int) ≤ (S.size : Int) := by omega
  have hdz : (S.extract a2 (a2 + n)).size ≤ 1100 := by rw [ByteArray.size_extract]; omega
  have HV := Lib.hid hv
  clear hv
  have HBY := Lib.hid (fun (W : World) => bytesR_any 4 0 (S.extract a2 (a2 + n)) W (by omega) (by omega) (by omega) (by omega) (by first | exact hdz | decide))
  have HL := Lib.hid hl
  clear hl
  go_enter Tryd.func45, Tryd.ntmps45
  go_upto_if 25 with (go_at_call 67; refine HC.out.mono ?_; rintro e w1 ⟨rfl, hx1, hr1⟩; have HB := Lib.hid (bh_new (k := 4) (n := (n : Int)) (d := ⟨#[]⟩) H.out hx1 (hr1 rfl)); clear hx1 hr1)
  refine gen_world (fun W => Bh w p w1.heap.size a2 S (.slice A xs.length cap) xs 4 n ⟨#[]⟩ W) HB.out ?_
  clear HB HC
  generalize w1.heap.size = B
  rintro W hbh
  have HBH := Lib.hid hbh
  obtain ⟨hR, hX, hbx, hB, hpw, _⟩ := hbh
  have q0 := hR.rr.c0
  have q1 := hR.rr.c1
  have q2 := hR.rr.c2
  have g1 := hR.rr.fz 1
  obtain ⟨b0, b1, b2, f0, f1, f2⟩ := hbx.cells
  have hBp : B ≠ p := by omega
  have hpB : p ≠ B := by omega
  clear hR hX hbx
  go_wp2_with (first | (go_at_call 68; refine (isKey_any _ _).mono ?_; rintro e w2 ⟨rfl, rfl⟩) | fail)
  go_quiet (fail)
  go_wp2_with fail
  go_region
  go_upto_region 20 with fail
  refine gen_world (fun W => Bh w p B (a2 + n) S (.slice A xs.length cap) xs 4 0 (S.extract a2 (a2 + n)) W) (bh_data HBH.out _ (a2 + n) 0 _ (by omega)) ?_
  clear HBH q0 q1 q2 g1 b0 b1 b2 f0 f1 f2 W
  rintro W hbh
  have HBH := Lib.hid hbh
  obtain ⟨hR, hX, hbx, _, _, _⟩ := hbh
  have q2 := hR.rr.c2
  obtain ⟨b0, b1, b2, f0, f1, f2⟩ := hbx.cells
  clear hR hX hbx
  go_wp2_with (first | (go_at_call 69; refine (valid_any _ _ (by omega) (by exact HBH.out.1.tabs.u8)).mono ?_; rw [HV.out]; rintro e w3 ⟨rfl, hb3⟩; have HB3 := Lib.hid hb3; clear hb3; obtain ⟨x0, x1, x2, _, _, _⟩ := (Bh.later HBH.out HB3.out).2.2.1.cells) | (go_at_call 38; refine (HBY.out _).mono ?_; rintro e w4 ⟨rfl, hb4⟩; have HB4 := Lib.hid hb4; clear hb4) | (go_at_call 70; refine (less_any _ _ _).mono ?_; rw [HL.out]; rintro e w5 ⟨rfl, rfl⟩) | fail)
  all_goals go_ret
  all_goals exact ⟨rfl, Ri.of_rx ((HBH.out.later HB3.out).later HB4.out).2.1, fun h0 => by cases h0⟩

end Go.Proofs.YtepinmeidjlmmaaDoor
