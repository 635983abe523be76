/- Bytes in memory; the word of up to eight of them. -/
import Derived.Test.YtgoajnljgbcmdaaSipD
import Derived.Deep.AppendLies
namespace Go.Proofs.Ytgoajnljgbcmdaa
open Go.RowKit
set_option maxRecDepth 100000
attribute [local go_sem] val_xor val_or val_add

/-- a slice value that holds the bytes zs -/
structure Bytes (w : World) (A : Option Addr) (n : Nat) (zs : List Int) : Prop where
  len : zs.length = n
  rng : ∀ z ∈ zs, 0 ≤ z ∧ z ≤ 255
  at_ : ∀ i, i < n → ∃ a, A = some a ∧ w.cell? (a.add i) = some (.int .u8 (zs.getD i 0))

theorem Addr.block_add (a : Addr) (n : Nat) : (a.add n).block = a.block := by unfold Addr.add; split <;> rfl
theorem Addr.add_add' (a : Addr) (i j : Nat) : (a.add i).add j = a.add (i + j) := by
  unfold Addr.add
  by_cases hi : i = 0 <;> by_cases hj : j = 0 <;> simp [hi, hj, Nat.add_assoc]
theorem cell_in {w : World} {a : Addr} {v : Value} (h : w.cell? a = some v) : a.block < w.heap.size := by
  rcases Nat.lt_or_ge a.block w.heap.size with h1 | h1
  · exact h1
  · unfold World.cell? at h
    simp [Array.getElem?_eq_none h1] at h
theorem Bytes.below {w w' : World} {A : Option Addr} {n : Nat} {zs : List Int} (h : Bytes w A n zs) (hb : Below w.heap.size w w') : Bytes w' A n zs :=
  ⟨h.len, h.rng, fun i hi => by
    obtain ⟨a, e, hc⟩ := h.at_ i hi
    exact ⟨a, e, (hb.cell (cell_in hc)).trans hc⟩⟩
theorem Bytes.byte {w : World} {A : Option Addr} {n : Nat} {zs : List Int} (h : Bytes w A n zs) (i : Nat) (hi : i < n) : 0 ≤ zs.getD i 0 ∧ zs.getD i 0 ≤ 255 := by
  have hl : i < zs.length := by have := h.len; omega
  simp only [List.getD, List.getElem?_eq_getElem hl, Option.getD_some]
  exact h.rng _ (List.getElem_mem hl)
theorem Bytes.take {w : World} {A : Option Addr} {n : Nat} {zs : List Int} (h : Bytes w A n zs) (k : Nat) (hk : k ≤ n) : Bytes w A k (zs.take k) := by
  refine ⟨by have := h.len; simp; omega, fun z hz => h.rng z (List.mem_of_mem_take hz), fun i hi => ?_⟩
  obtain ⟨a, e, hc⟩ := h.at_ i (by omega)
  refine ⟨a, e, hc.trans ?_⟩
  simp [List.getD, hi]
theorem Bytes.drop {w : World} {A : Option Addr} {n cap : Nat} {zs : List Int} (h : Bytes w A n zs) (k : Nat) (hk : k ≤ n) (hc : n ≤ cap) :
    Bytes w (if cap = k then A else A.map (·.add k)) (n - k) (zs.drop k) := by
  refine ⟨by have := h.len; simp; omega, fun z hz => h.rng z (List.mem_of_mem_drop hz), fun i hi => ?_⟩
  obtain ⟨a, e, hcell⟩ := h.at_ (k + i) (by omega)
  rw [if_neg (by omega), e]
  refine ⟨a.add k, rfl, ?_⟩
  rw [Addr.add_add', hcell]
  simp [List.getD, List.getElem?_drop]

theorem le_step (x : BitVec 64) (z : Int) (k : Nat) (h0 : 0 ≤ z) (h1 : z ≤ 255) : bits .or .u64 (val x) (IntKind.u64.wrap (z * 2 ^ (8 * k))) = val (x ||| BitVec.ofInt 64 z <<< (8 * k)) := by
  have e : z = val (BitVec.ofInt 64 z) := val_of h0 (by omega)
  generalize BitVec.ofInt 64 z = y at *
  rw [e, val_shl, val_or]

theorem Only.below' {g : Nat} {w0 w w' : World} (hb : Below w0.heap.size w0 w) (h : Only g w w') (hg : w0.heap.size ≤ g) : Below w0.heap.size w0 w' := hb.trans (h.below hg)

theorem len_word (n : Nat) (h : n ≤ 9223372036854775807) : IntKind.u64.wrap ((n : Int) * 72057594037927936) = val (BitVec.ofNat 64 n <<< 56) := by
  have e : (n : Int) = val (BitVec.ofNat 64 n) := by unfold val; rw [BitVec.toNat_ofNat]; omega
  rw [← val_shl, ← e]; rfl

end Go.Proofs.Ytgoajnljgbcmdaa
