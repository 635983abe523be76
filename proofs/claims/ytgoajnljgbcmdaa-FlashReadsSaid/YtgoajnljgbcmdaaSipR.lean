/- The law DigestWords, walked. -/
import Derived.Test.YtgoajnljgbcmdaaSipP
import Derived.Deep.RegionWith
namespace Go.Proofs.Ytgoajnljgbcmdaa
open Go.RowKit
set_option maxRecDepth 100000

theorem infoW : (Try.prog.info? 64).map (fun i => (i.zero, i.size, i.bytes)) = some (some (.int .u64 0), 1, 8) := by kernel_rfl
def wv (l : List (BitVec 64)) : List Value := l.map fun x => .int .u64 (val x)
theorem wv_app (a b : List (BitVec 64)) : wv (a ++ b) = wv a ++ wv b := by simp [wv]
theorem wv_len (a : List (BitVec 64)) : (wv a).length = a.length := by simp [wv]
theorem wv_at (l : List (BitVec 64)) (j : Nat) (h : j < l.length) : (wv l)[j]? = some (.int .u64 (val (l.getD j 0))) := by
  simp only [wv, List.getElem?_map, List.getD]
  rw [List.getElem?_eq_getElem h]; rfl
theorem wv_one (l : List (BitVec 64)) : ∀ u ∈ wv l, u.oneCell' = true := by
  intro u hu
  simp only [wv, List.mem_map] at hu
  obtain ⟨z, _, rfl⟩ := hu
  rfl
theorem Ws.cells {w : World} {a : Addr} {m : Nat} {ws : List (BitVec 64)} (h : Ws w (some a) m ws) : ∀ j u, (wv ws)[j]? = some u → w.cell? (a.add j) = some u := by
  intro j u hj
  have hjm : j < ws.length := by
    rcases Nat.lt_or_ge j ws.length with h1 | h1
    · exact h1
    · rw [List.getElem?_eq_none (by rw [wv_len]; exact h1)] at hj; cases hj
  rw [wv_at ws j hjm] at hj
  cases hj
  obtain ⟨a2, e, hc⟩ := h.at_ j (by have := h.len; omega)
  cases e
  exact hc
theorem own_words {w : World} {base n : Nat} {v : Value} {ws : List (BitVec 64)} (h : w.ownsRow base 64 1 v n (wv ws)) :
    ∃ A cap, v = .slice A n cap ∧ Ws w A n ws := by
  have hl : ws.length = n := by have := h.1; rw [wv_len] at this; omega
  rcases h.2 with ⟨hv, h0⟩ | ⟨g, cap, cur, hv, _, _, h1, h2, _⟩
  · subst h0
    exact ⟨none, 0, hv, hl, fun i hi => absurd hi (by omega)⟩
  · refine ⟨_, cap, hv, hl, fun i hi => ⟨_, rfl, ?_⟩⟩
    exact h.cells (g := g) (by rw [hv]; rfl) i _ (wv_at ws i (by omega))

/-- what the slice reads as, now and later: a string -/
def StrAt (w : World) (A : Option Addr) (n c : Nat) (s : ByteArray) : Prop := ∀ W : World, Below w.heap.size w W → (convert 22 9 (.slice A n c)).run Try.prog W = .ok (.string s) W
theorem StrAt.of {w : World} {A : Option Addr} {n c : Nat} {zs : List Int} {s : ByteArray} (h : Bytes w A n zs) (hs : strOfNums zs = s) : StrAt w A n c s := fun W hb => by
  rw [← hs]; exact conv_bytes (h.below hb)
theorem StrAt.now {w : World} {A : Option Addr} {n c : Nat} {s : ByteArray} (h : StrAt w A n c s) : (convert 22 9 (.slice A n c)).run Try.prog w = .ok (.string s) w := h w (Below.refl _ _)
theorem StrAt.below {w w' : World} {A : Option Addr} {n c : Nat} {s : ByteArray} (h : StrAt w A n c s) (hb : Below w.heap.size w w') : StrAt w' A n c s := fun W hW => h W (hb.trans (hW.mono hb.size))

theorem strOf_app (a b : List Int) : strOfNums a ++ strOfNums b = strOfNums (a ++ b) := by
  apply ByteArray.ext
  simp [strOfNums]
end Go.Proofs.Ytgoajnljgbcmdaa
