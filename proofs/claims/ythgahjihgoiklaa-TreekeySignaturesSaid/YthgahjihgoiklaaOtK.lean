/- The law OnetimeSigns, walked. -/
import Derived.Test.YthgahjihgoiklaaOtJ
namespace Go.Proofs.Ythgahjihgoiklaa
open Go.RowKit
set_option maxRecDepth 100000

theorem val_and_small (x : BitVec 64) (z : Int) (h0 : 0 ≤ z) (h1 : z ≤ 255) : bits .and .u64 (val x) z = val (x &&& BitVec.ofInt 64 z) := by
  rw [← val_and, ← val_of h0 (by omega)]

theorem own_set {w : World} {base g n cap : Nat} {ws : List (BitVec 64)} (h : w.ownsRow base 22 1 (.slice (some ⟨g, 0, none⟩) n cap) n (wv ws)) (hb : base ≤ g) (i : Nat) (x : BitVec 64) :
    (w.setCell ⟨g, i, none⟩ (.int .u64 (val x))).ownsRow base 22 1 (.slice (some ⟨g, 0, none⟩) n cap) n (wv (ws.set i x)) ∧ Below base w (w.setCell ⟨g, i, none⟩ (.int .u64 (val x))) := by
  rw [wv_set]
  exact ⟨(World.ownsRow.stored h i _).1, (Below.refl base w).setCell hb _⟩

/-- both Recover answer alike, and what they answer -/
def recA (l : Int) (m : BitVec 64) (ws : List (BitVec 64)) : Int := if ws.length = 18 then val (recF l m ws) else 0
def recE (ws : List (BitVec 64)) : Int := if ws.length = 18 then 0 else 4
theorem rec_all (l : Int) (m : BitVec 64) (B : Option Addr) (n c : Nat) (ws : List (BitVec 64)) (w : World) (hw : Ws w B n ws) :
    Calls Try.prog 34 #[.int .i64 l, .int .u64 (val m), .slice B n c] w fun e w' => e = .returned (.tuple #[.int .u64 (recA l m ws), .int .i64 (recE ws)]) ∧ Below w.heap.size w w' := by
  unfold recA recE
  rw [hw.len]
  by_cases h : n = 18
  · subst h
    exact rec_any l m B c ws w hw
  · rw [if_neg h, if_neg h]
    exact rec_bad l m B n c w h
theorem recR_all (l : Int) (m : BitVec 64) (B : Option Addr) (n c : Nat) (ws : List (BitVec 64)) (w : World) (hw : Ws w B n ws) :
    Calls Try.prog 36 #[.int .i64 l, .int .u64 (val m), .slice B n c] w fun e w' => e = .returned (.tuple #[.int .u64 (recA l m ws), .int .i64 (recE ws)]) ∧ Below w.heap.size w w' := by
  unfold recA recE
  rw [hw.len]
  by_cases h : n = 18
  · subst h
    exact recR_any l m B c ws w hw
  · rw [if_neg h, if_neg h]
    exact recR_bad l m B n c w h

end Go.Proofs.Ythgahjihgoiklaa
