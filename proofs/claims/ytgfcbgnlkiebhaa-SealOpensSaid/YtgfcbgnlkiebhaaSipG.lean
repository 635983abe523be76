/- The reference's Sum. -/
import Derived.Test.YtgfcbgnlkiebhaaSipF
namespace Go.Proofs.Ytgfcbgnlkiebhaa
open Go.RowKit
set_option maxRecDepth 100000
attribute [local go_sem] val_xor val_or val_add

theorem horner_step (x : BitVec 64) (z : Int) (h0 : 0 ≤ z) (h1 : z ≤ 255) : bits .or .u64 (IntKind.u64.wrap (val x * 256)) z = val (x <<< 8 ||| BitVec.ofInt 64 z) := by
  have e : z = val (BitVec.ofInt 64 z) := val_of h0 (by omega)
  generalize BitVec.ofInt 64 z = y at *
  rw [e, ← val_or, ← val_shl]
  rfl
theorem Ar.below {w w' : World} {g B : Nat} {s : S4} (h : Ar w g s) (hb : Below B w w') (hg : g < B) : Ar w' g s := (hb.block g hg).trans h
theorem ar_begin {P : Program} {code : Code} {Q : Exit → Act → World → Prop} {a : Act} {W : World} {g B : Nat} {s : S4} {w0 : World} (hS : Ar W g s) (hO : Below B w0 W)
    (h : ∀ W', Ar W' g s → Below B w0 W' → Code.wp P code Q a W') : Code.wp P code Q a W := h W hS hO
theorem sipByte_in {zs : List Int} {i k : Nat} (h : i + k < zs.length) : sipByte zs i k = BitVec.ofInt 64 (zs.getD (i + k) 0) := by unfold sipByte; rw [if_pos h]
theorem sipByte_top {zs : List Int} {i : Nat} (h : ¬ i + 7 < zs.length) : sipByte zs i 7 = BitVec.ofInt 64 ((zs.length : Int) % 256) := by
  unfold sipByte
  rw [if_neg h, if_pos rfl]
  rw [show ((zs.length : Int) % 256) = ((zs.length % 256 : Nat) : Int) by omega, BitVec.ofInt_natCast]
theorem sipByte_out {zs : List Int} {i k : Nat} (h : ¬ i + k < zs.length) (hk : k ≠ 7) : sipByte zs i k = BitVec.ofInt 64 0 := by
  unfold sipByte
  rw [if_neg h, if_neg hk]
  rfl

set_option maxHeartbeats 2000000 in
theorem sumR_any (x y : BitVec 64) (A : Option Addr) (n cap : Nat) (zs : List Int) (w : World) (hb : Bytes w A n zs) (hn : n ≤ 1000000000000) :
    Calls Try.prog 29 #[.int .u64 (val x), .int .u64 (val y), .slice A n cap] w fun e w' => e = .returned (.int .u64 (val (sipSum x y zs))) ∧ Below w.heap.size w w' := by
  have x1 : bits .xor .u64 (val x) 8317987319222330741 = val (x ^^^ 8317987319222330741#64) := val_xor x 8317987319222330741
  have x2 : bits .xor .u64 (val y) 7237128888997146477 = val (y ^^^ 7237128888997146477#64) := val_xor y 7237128888997146477
  have x3 : bits .xor .u64 (val x) 7816392313619706465 = val (x ^^^ 7816392313619706465#64) := val_xor x 7816392313619706465
  have x4 : bits .xor .u64 (val y) 8387220255154660723 = val (y ^^^ 8387220255154660723#64) := val_xor y 8387220255154660723
  go_enter Try.func29, Try.ntmps29
  go_wp2
  refine ar_begin (Ar.new w (sipNew x y)) ((Below.refl _ w).alloc (Nat.le_refl _) _) ?_
  intro w2 hs2 hb2
  have HS := Lib.hid hs2
  clear hs2 x1 x2 x3 x4
  go_loopw [8] (fun i wr => ∃ j : Nat, ∃ I : Nat, i = .int .i64 I ∧ Hid (I = 8 * j) ∧ I ≤ n + 8 ∧ Ar wr w.heap.size (sipTo x y zs j) ∧ Below w.heap.size w wr) (fun i _ => n + 8 - (intOf i).toNat)
  case atStart => exact ⟨0, 0, rfl, Lib.hid rfl, by omega, HS.out, hb2⟩
  case round =>
    obtain ⟨j, I, rfl, HI, hI, hs, hbw⟩ := hrel
    have HS' := Lib.hid hs
    have hbr := hb.below hbw
    clear hs
    by_cases hlt : I ≤ n
    · go_wp2
      go_loop [9, 10] (fun m k => ∃ t : Nat, ∃ z : Int, k = .int .i64 z ∧ Hid (z = 7 - t) ∧ t ≤ 8 ∧ -1 ≤ z ∧ z ≤ 7 ∧ m = .int .u64 (val (sipHorner zs I t))) (fun _ k => (intOf k + 1).toNat)
      case atStart => exact ⟨0, 7, rfl, Lib.hid rfl, by omega, by omega, by omega, rfl⟩
      case round =>
        obtain ⟨t, z, rfl, Hz, ht, hz1, hz7, rfl⟩ := hrel
        by_cases hz0 : 0 ≤ z
        · obtain ⟨K, rfl⟩ := Int.eq_ofNat_of_zero_le hz0
          have hKt : K + t = 7 ∧ 7 - t = K := by have := Hz.out; omega
          have HK := Lib.hid hKt
          clear hKt
          by_cases hin : I + K < n
          · obtain ⟨a, rfl, hcell⟩ := hbr.at_ (I + K) hin
            obtain ⟨z0, z1⟩ := hbr.byte (I + K) hin
            have hby := sipByte_in (zs := zs) (i := I) (k := K) (by have := hb.len; omega)
            generalize zs.getD (I + K) 0 = c at *
            have Hby := Lib.hid hby
            clear hby
            go_wp2
            go_round
            case rel => exact ⟨t + 1, _, rfl, Lib.hid (by have := HK.out; omega), by have := HK.out; omega, by omega, by omega, by rw [horner_step _ _ z0 z1, ← Hby.out, ← HK.out.2]; rfl⟩
            case measure => (simp [intOf] <;> omega)
          · by_cases hk7 : K = 7
            · subst hk7
              have hby := sipByte_top (zs := zs) (i := I) (by have := hb.len; omega)
              rw [hb.len] at hby
              have Hby := Lib.hid hby
              clear hby
              go_wp2
              go_round
              case rel => exact ⟨t + 1, _, rfl, Lib.hid (by have := HK.out; omega), by have := HK.out; omega, by omega, by omega, by rw [horner_step _ _ (by omega) (by omega), ← Hby.out]; have e := HK.out.2; show _ = Value.int _ (val (sipHorner zs I t <<< 8 ||| sipByte zs I (7 - t))); rw [e]⟩
              case measure => (simp [intOf] <;> omega)
            · have hk7b : ((K : Int) == 7) = false := by simp; omega
              have hby := sipByte_out (zs := zs) (i := I) (k := K) (by have := hb.len; omega) hk7
              have Hby := Lib.hid hby
              clear hby
              go_wp2
              go_round
              case rel => exact ⟨t + 1, _, rfl, Lib.hid (by have := HK.out; omega), by have := HK.out; omega, by omega, by omega, by rw [horner_step _ _ (by omega) (by omega), ← Hby.out]; have e := HK.out.2; show _ = Value.int _ (val (sipHorner zs I t <<< 8 ||| sipByte zs I (7 - t))); rw [e]⟩
              case measure => (simp [intOf] <;> omega)
        · have hz8 : t = 8 := by have := Hz.out; omega
          obtain rfl : z = -1 := by omega
          have Hz8 := Lib.hid hz8
          clear hz8
          obtain ⟨c0, c1, c2, c3⟩ := HS'.out.cells
          have f0 := HS'.out.free 0
          have f1 := HS'.out.free 1
          have f2 := HS'.out.free 2
          have f3 := HS'.out.free 3
          have hm8 : sipHorner zs I t = sipWord zs (8 * j) := by rw [Hz8.out, HI.out]; rfl
          generalize hwd : sipWord zs (8 * j) = wd at *
          have Hwd := Lib.hid hwd
          have Hm8 := Lib.hid hm8
          clear hwd hm8
          rw [Hm8.out]
          have hA3 := (HS'.out.set3 ((sipTo x y zs j).d ^^^ wd))
          have hs0 : sipTo x y zs (j + 1) = sipAbsorb (sipTo x y zs j) wd := by rw [← Hwd.out]; rfl
          generalize sipTo x y zs j = s0 at *
          have HS0 := Lib.hid hs0
          have HA3 := Lib.hid hA3
          clear hs0 hA3
          go_wp2_with fail
          refine (roundR_any ⟨s0.a, s0.b, s0.c, s0.d ^^^ wd⟩ _).mono ?_
          rintro e w3 ⟨rfl, hb3⟩
          have hlt3 : w.heap.size < w3.heap.size := by have := HA3.out.lt; have := hb3.size; omega
          have HA4 := Lib.hid (HA3.out.below hb3 HA3.out.lt)
          have hbw3 := (hbw.setCell (p := ⟨w.heap.size, 3, none⟩) (Nat.le_refl _) (.int .u64 (val (s0.d ^^^ wd)))).trans (hb3.mono (by have := HA3.out.lt; omega))
          have hst2 : sipRounds 2 ⟨s0.a, s0.b, s0.c, s0.d ^^^ wd⟩ = sipRound (sipRound ⟨s0.a, s0.b, s0.c, s0.d ^^^ wd⟩) := rfl
          generalize hr1 : sipRound ⟨s0.a, s0.b, s0.c, s0.d ^^^ wd⟩ = s1 at *
          have HR := Lib.hid hst2
          clear hst2 hr1
          go_wp2_with fail
          refine (roundR_any s1 _).mono ?_
          rintro e w4 ⟨rfl, hb4⟩
          generalize hr2 : sipRound s1 = s2 at *
          have HR2 := Lib.hid hr2
          clear hr2
          have hA5 := HA4.out.below hb4 hlt3
          have hbw4 := hbw3.trans (hb4.mono (Nat.le_of_lt hlt3))
          obtain ⟨d0, d1, d2, d3⟩ := hA5.cells
          have e0 := hA5.free 0
          have e1 := hA5.free 1
          have e2 := hA5.free 2
          have e3 := hA5.free 3
          have HA5 := Lib.hid hA5
          clear hA5 hb3 hb4 c0 c1 c2 c3 f0 f1 f2 f3
          go_wp2
          go_roundw
          have hse : sipTo x y zs (j + 1) = ⟨s2.a ^^^ wd, s2.b, s2.c, s2.d⟩ := by rw [HS0.out]; unfold sipAbsorb; rw [HR.out]
          case rel => exact ⟨j + 1, I + 8, by go_num, Lib.hid (by have := HI.out; omega), by omega, by rw [hse]; exact ((((HA5.out.set0 s2.a).set1 s2.b).set2 s2.c).set3 s2.d).set0 (s2.a ^^^ wd),
            ((((hbw4.setCell (Nat.le_refl _) _).setCell (Nat.le_refl _) _).setCell (Nat.le_refl _) _).setCell (Nat.le_refl _) _).setCell (Nat.le_refl _) _⟩
          case measure => (simp [intOf] <;> omega)
    · have hj : sipSum x y zs = sipFinish (sipTo x y zs j) := by
        have e : zs.length / 8 + 1 = j := by have := HI.out; have := hb.len; omega
        unfold sipSum
        rw [e]
      have x5 : bits .xor .u64 (val (sipTo x y zs j).c) 255 = val ((sipTo x y zs j).c ^^^ 255#64) := val_xor _ 255#64
      generalize sipTo x y zs j = s0 at *
      obtain ⟨c0, c1, c2, c3⟩ := HS'.out.cells
      have f2 := HS'.out.free 2
      have HJ := Lib.hid hj
      clear hj
      have hfin : sipFinish s0 = (sipRound (sipRound (sipRound (sipRound ⟨s0.a, s0.b, s0.c ^^^ 255#64, s0.d⟩)))).a ^^^ (sipRound (sipRound (sipRound (sipRound ⟨s0.a, s0.b, s0.c ^^^ 255#64, s0.d⟩)))).b ^^^ (sipRound (sipRound (sipRound (sipRound ⟨s0.a, s0.b, s0.c ^^^ 255#64, s0.d⟩)))).c ^^^ (sipRound (sipRound (sipRound (sipRound ⟨s0.a, s0.b, s0.c ^^^ 255#64, s0.d⟩)))).d := rfl
      have HF := Lib.hid hfin
      clear hfin
      have HA0 := Lib.hid (HS'.out.set2 (s0.c ^^^ 255#64))
      have hb0 := hbw.setCell (p := ⟨w.heap.size, 2, none⟩) (Nat.le_refl _) (.int .u64 (val (s0.c ^^^ 255#64)))
      have hl0 := HA0.out.lt
      go_wp2_with fail
      refine (roundR_any ⟨s0.a, s0.b, s0.c ^^^ 255#64, s0.d⟩ _).mono ?_
      generalize sipRound ⟨s0.a, s0.b, s0.c ^^^ 255#64, s0.d⟩ = s1 at *
      rintro e v1 ⟨rfl, hbr1⟩
      have HA1 := Lib.hid (HA0.out.below hbr1 hl0)
      have hl1 := HA1.out.lt
      have hb1 := hb0.trans (hbr1.mono (Nat.le_of_lt hl0))
      clear hbr1
      go_wp2_with fail
      refine (roundR_any s1 _).mono ?_
      generalize sipRound s1 = s2 at *
      rintro e v2 ⟨rfl, hbr2⟩
      have HA2 := Lib.hid (HA1.out.below hbr2 hl1)
      have hl2 := HA2.out.lt
      have hb2 := hb1.trans (hbr2.mono (Nat.le_of_lt hl1))
      clear hbr2
      go_wp2_with fail
      refine (roundR_any s2 _).mono ?_
      generalize sipRound s2 = s3 at *
      rintro e v3 ⟨rfl, hbr3⟩
      have HA3 := Lib.hid (HA2.out.below hbr3 hl2)
      have hl3 := HA3.out.lt
      have hb3 := hb2.trans (hbr3.mono (Nat.le_of_lt hl2))
      clear hbr3
      go_wp2_with fail
      refine (roundR_any s3 _).mono ?_
      generalize sipRound s3 = s4 at *
      rintro e v4 ⟨rfl, hbr4⟩
      have HA4 := Lib.hid (HA3.out.below hbr4 hl3)
      have hl4 := HA4.out.lt
      have hb4 := hb3.trans (hbr4.mono (Nat.le_of_lt hl3))
      clear hbr4
      clear c0 c1 c2 c3 f2 x5 hb0 hb1 hb2 hb3 hl0 hl1 hl2 hl3
      obtain ⟨d0, d1, d2, d3⟩ := HA4.out.cells
      have e0 := HA4.out.free 0
      have e1 := HA4.out.free 1
      have e2 := HA4.out.free 2
      have e3 := HA4.out.free 3
      go_wp2
      go_ret
      exact ⟨by rw [HJ.out, HF.out]; rfl, (((hb4.setCell (Nat.le_refl _) _).setCell (Nat.le_refl _) _).setCell (Nat.le_refl _) _).setCell (Nat.le_refl _) _⟩
end Go.Proofs.Ytgfcbgnlkiebhaa
