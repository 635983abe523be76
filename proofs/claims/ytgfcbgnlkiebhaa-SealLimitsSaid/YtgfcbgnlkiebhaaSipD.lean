/- The rounds, one word, the end, the beginning. -/
import Derived.Test.YtgfcbgnlkiebhaaSipC
namespace Go.Proofs.Ytgfcbgnlkiebhaa
open Go.RowKit
set_option maxRecDepth 100000
attribute [local go_sem] val_xor val_or val_add

set_option maxHeartbeats 1000000 in
theorem rounds_any (b : Nat) (s : S4) (n : Nat) (hn : n ≤ 1000) (w : World) (hs : St w b s) :
    Calls Try.prog 35 #[.pointer (some ⟨b, 0, none⟩), .int .i64 n] w fun e w' => e = .returned (.tuple #[]) ∧ St w' b (sipRounds n s) ∧ Only b w w' := by
  have HS := Lib.hid hs
  clear hs
  go_enter Try.func35, Try.ntmps35
  go_wp2
  go_loopw [5] (fun i wr => ∃ k : Nat, k ≤ n ∧ i = .int .i64 k ∧ St wr b (sipRounds k s) ∧ Only b w wr) (fun i _ => n - (intOf i).toNat)
  case atStart => exact ⟨0, Nat.zero_le _, rfl, HS.out, Only.refl _ _⟩
  case round =>
    obtain ⟨k, hk, rfl, hs, ho⟩ := hrel
    by_cases hlt : k < n
    · go_wp2_with (go_at_call 37; refine ((round_any b _ _ hs).mono ?_); rintro e w' ⟨rfl, hs', ho'⟩)
      go_roundw
      case rel => exact ⟨k + 1, by omega, by go_num, hs', ho.trans ho'⟩
      case measure => simp [intOf]; omega
    · have hkn : k = n := by omega
      subst hkn
      go_wp2
      go_end0
      exact ⟨rfl, hs, ho⟩
theorem rounds2 (b : Nat) (s : S4) (w : World) (hs : St w b s) :
    Calls Try.prog 35 #[.pointer (some ⟨b, 0, none⟩), .int .i64 2] w fun e w' => e = .returned (.tuple #[]) ∧ St w' b (sipRounds 2 s) ∧ Only b w w' := rounds_any b s 2 (by omega) w hs
theorem rounds4 (b : Nat) (s : S4) (w : World) (hs : St w b s) :
    Calls Try.prog 35 #[.pointer (some ⟨b, 0, none⟩), .int .i64 4] w fun e w' => e = .returned (.tuple #[]) ∧ St w' b (sipRounds 4 s) ∧ Only b w w' := rounds_any b s 4 (by omega) w hs

set_option maxHeartbeats 1000000 in
theorem absorb_any (b : Nat) (s : S4) (m : BitVec 64) (w : World) (hs : St w b s) :
    Calls Try.prog 31 #[.pointer (some ⟨b, 0, none⟩), .int .u64 (val m)] w fun e w' => e = .returned (.tuple #[]) ∧ St w' b (sipAbsorb s m) ∧ Only b w w' := by
  obtain ⟨_, _, _, c3⟩ := hs.cells
  have f3 := hs.free 3
  have HS := Lib.hid hs
  clear hs
  go_enter Try.func31, Try.ntmps31
  go_wp2_with fail
  refine (rounds2 b _ _ (HS.out.set3 _)).mono ?_
  rintro e w' ⟨rfl, hs, ho⟩
  obtain ⟨c0, _, _, _⟩ := hs.cells
  have f0 := hs.free 0
  have HS' := Lib.hid hs
  clear hs c3 f3
  generalize hst : sipRounds 2 ⟨s.a, s.b, s.c, s.d ^^^ m⟩ = st at *
  have Hst := Lib.hid hst
  clear hst
  go_wp2
  go_end0
  refine ⟨rfl, ?_, ((Only.refl b w).set_ _ _).trans (ho.set_ _ _)⟩
  unfold sipAbsorb
  rw [Hst.out]
  exact HS'.out.set0 _

set_option maxHeartbeats 1000000 in
theorem finish_any (b : Nat) (s : S4) (w : World) (hs : St w b s) :
    Calls Try.prog 33 #[.pointer (some ⟨b, 0, none⟩)] w fun e w' => e = .returned (.int .u64 (val (sipFinish s))) ∧ Only b w w' := by
  obtain ⟨_, _, c2, _⟩ := hs.cells
  have f2 := hs.free 2
  have HS := Lib.hid hs
  have x255 : bits .xor .u64 (val s.c) 255 = val (s.c ^^^ 255#64) := val_xor s.c 255#64
  clear hs
  go_enter Try.func33, Try.ntmps33
  go_wp2_with fail
  refine (rounds4 b _ _ (HS.out.set2 _)).mono ?_
  rintro e w' ⟨rfl, hs, ho⟩
  obtain ⟨c0, c1, c2', c3⟩ := hs.cells
  clear hs c2 f2 x255
  generalize hst : sipRounds 4 ⟨s.a, s.b, s.c ^^^ 255#64, s.d⟩ = st at *
  have Hst := Lib.hid hst
  clear hst
  go_wp2
  go_quiet (fail)
  go_wp2
  go_ret
  refine ⟨?_, ((Only.refl b w).set_ _ _).trans (ho.drewN _)⟩
  unfold sipFinish
  rw [Hst.out]
  rfl

set_option maxHeartbeats 1000000 in
theorem newState_any (x y : BitVec 64) (w : World) :
    Calls Try.prog 30 #[.int .u64 (val x), .int .u64 (val y)] w fun e w' => e = .returned (.agg #[.int .u64 (val (sipNew x y).a), .int .u64 (val (sipNew x y).b), .int .u64 (val (sipNew x y).c), .int .u64 (val (sipNew x y).d)]) ∧ Below w.heap.size w w' := by
  have x1 : bits .xor .u64 (val x) 8317987319222330741 = val (x ^^^ 8317987319222330741#64) := val_xor x 8317987319222330741
  have x2 : bits .xor .u64 (val y) 7237128888997146477 = val (y ^^^ 7237128888997146477#64) := val_xor y 7237128888997146477
  have x3 : bits .xor .u64 (val x) 7816392313619706465 = val (x ^^^ 7816392313619706465#64) := val_xor x 7816392313619706465
  have x4 : bits .xor .u64 (val y) 8387220255154660723 = val (y ^^^ 8387220255154660723#64) := val_xor y 8387220255154660723
  go_enter Try.func30, Try.ntmps30
  go_wp2
  exact bodyPost_ret (v := .agg #[.int .u64 (val (sipNew x y).a), .int .u64 (val (sipNew x y).b), .int .u64 (val (sipNew x y).c), .int .u64 (val (sipNew x y).d)]) (by simp [results, Try.results30, go_sem]; exact ⟨rfl, rfl, rfl, rfl⟩) rfl ⟨rfl, (Below.refl _ _).alloc (Nat.le_refl _) _⟩
end Go.Proofs.Ytgfcbgnlkiebhaa
