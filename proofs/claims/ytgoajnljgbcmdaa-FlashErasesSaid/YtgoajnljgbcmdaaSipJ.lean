/- Derive of both. -/
import Derived.Test.YtgoajnljgbcmdaaSipI
namespace Go.Proofs.Ytgoajnljgbcmdaa
open Go.RowKit
set_option maxRecDepth 100000

theorem owns_below {w w' : World} {base e size n : Nat} {v : Value} {xs : List Value} (h : w.ownsRow base e size v n xs) (hb : Below w.heap.size w w') : w'.ownsRow base e size v n xs := by
  refine ⟨h.1, ?_⟩
  rcases h.2 with h0 | ⟨g, cap, cur, hv, hg, hh, hc⟩
  · exact .inl h0
  · refine .inr ⟨g, cap, cur, hv, hg, ?_, hc⟩
    have hlt : g < w.heap.size := by
      rcases Nat.lt_or_ge g w.heap.size with h1 | h1
      · exact h1
      · rw [Array.getElem?_eq_none h1] at hh; cases hh
    rw [hb.block g hlt, hh]
theorem own_bytes {w : World} {base n : Nat} {v : Value} {zs : List Int} (h : w.ownsRow base 5 1 v n (bv zs)) (hr : ∀ z ∈ zs, 0 ≤ z ∧ z ≤ 255) :
    ∃ A cap, v = .slice A n cap ∧ n ≤ cap ∧ cap ≤ 9223372036854775807 ∧ Bytes w A n zs := by
  have hl : zs.length = n := by have := h.1; rw [bv_len] at this; omega
  rcases h.2 with ⟨hv, h0⟩ | ⟨g, cap, cur, hv, _, _, h1, h2, _⟩
  · subst h0
    exact ⟨none, 0, hv, Nat.le_refl _, by omega, hl, hr, fun i hi => absurd hi (by omega)⟩
  · refine ⟨_, cap, hv, h1, h2, hl, hr, fun i hi => ⟨_, rfl, ?_⟩⟩
    have := h.cells (g := g) (by rw [hv]; rfl) i (.int .u8 (zs.getD i 0)) (by
      simp only [bv, List.getElem?_map, List.getD]
      rw [List.getElem?_eq_getElem (by omega)]; rfl)
    exact this

/-- append(b, u...) of bytes, b the call's own -/
theorem app_bytes {ops : Array Oper} {rest : List Oper} {o : Oper} {a : Act} {Q : Exit → Act → World → Prop} {w : World} (hgd : o.guard = none) (s x : Operand)
    (ho : o.op = .call { callee := .builtin .append, args := #[s, x], argTypes := #[22, 22] })
    (base : Nat) (v : Value) (n : Nat) (xs : List Int) (A : Option Addr) (m cap : Nat) (zs : List Int) (hown : w.ownsRow base 5 1 v n (bv xs)) (hs : a.eval s = v)
    (hB : Bytes w A m zs) (hx : a.eval x = .slice A m cap) (h0 : 0 < m) (hn : n + m ≤ 100000000000000) (hb : base ≤ w.heap.size)
    (h : ∀ v' w', w'.ownsRow base 5 1 v' (n + m) (bv (xs ++ zs)) → Below base w w' → wpList Try.prog ops Q rest (a.put o.dst v') w') :
    wpList Try.prog ops Q (o :: rest) a w := by
  obtain ⟨i0, hi, hz0, hz1, hz2⟩ := info_parts infoB
  obtain ⟨ad, rfl, _⟩ := hB.at_ 0 h0
  refine wpList_append_own _ hgd s x 22 ho base 5 i0 (.int .u8 0) 1 1 Try.underlying22 hi hz0 hz1 hz2 rfl (by decide) v n (bv xs) hs hown ad m cap (bv zs) hx (by rw [bv_len, hB.len, Nat.mul_one]) ?_ ?_ (by unfold maxLen; omega) (by omega) hb ?_
  · intro j u hj
    simp only [bv, List.getElem?_map, Option.map_eq_some_iff] at hj
    obtain ⟨z, hz, rfl⟩ := hj
    have hjm : j < m := by
      have := hB.len
      rcases Nat.lt_or_ge j zs.length with h1 | h1
      · omega
      · rw [List.getElem?_eq_none h1] at hz; cases hz
    obtain ⟨a2, e, hc⟩ := hB.at_ j hjm
    cases e
    rw [hc]
    simp [List.getD, hz]
  · intro u hu
    simp only [bv, List.mem_map] at hu
    obtain ⟨z, _, rfl⟩ := hu
    rfl
  · intro v' w' h1 h2 _
    rw [← bv_app] at h1
    exact h v' w' h1 (below_of_grown hown hb h2)

/-- append(b, s...) of a string's bytes, b the call's own -/
theorem app_str {ops : Array Oper} {rest : List Oper} {o : Oper} {a : Act} {Q : Exit → Act → World → Prop} {w : World} (hgd : o.guard = none) (sl x : Operand)
    (ho : o.op = .call { callee := .builtin .append, args := #[sl, x], argTypes := #[22, 9] })
    (base : Nat) (v : Value) (n : Nat) (xs : List Value) (s : ByteArray) (hown : w.ownsRow base 5 1 v n xs) (hs : a.eval sl = v)
    (hx : a.eval x = .string s) (hn : n + s.size ≤ 100000000000000) (hb : base ≤ w.heap.size)
    (h : ∀ v' w', w'.ownsRow base 5 1 v' (n + s.size) (xs ++ Lib.strCells s) → Below base w w' → wpList Try.prog ops Q rest (a.put o.dst v') w') :
    wpList Try.prog ops Q (o :: rest) a w := by
  obtain ⟨i0, hi, hz0, hz1, hz2⟩ := info_parts infoB
  refine Lib.wpList_append_own_string _ hgd sl x 22 9 ho base 5 i0 Try.underlying22 Try.underlying9 hi hz0 hz1 hz2 v n xs hs hown s hx (by unfold maxLen; omega) (by omega) hb ?_
  intro v' w' h1 h2 _
  exact h v' w' h1 (below_of_grown hown hb h2)

def dataI (d : ByteArray) : List Int := d.data.toList.map fun b => (b.toNat : Int)
theorem dataI_cells (d : ByteArray) : bv (dataI d) = Lib.strCells d := by simp [bv, dataI, Lib.strCells]
theorem dataI_len (d : ByteArray) : (dataI d).length = d.size := by simp [dataI]
theorem dataI_rng (d : ByteArray) : ∀ z ∈ dataI d, 0 ≤ z ∧ z ≤ 255 := by
  intro z hz
  simp only [dataI, List.mem_map] at hz
  obtain ⟨b, _, rfl⟩ := hz
  have := b.toNat_lt
  omega
def deriveBytes (s : ByteArray) (n : Int) : List Int := dataI s ++ [0] ++ wsBytes [BitVec.ofInt 64 n]
def sipDerive (x : BitVec 64) (s : ByteArray) (n : Int) : BitVec 64 := sipMac x 4 (deriveBytes s n)
theorem deriveBytes_rng (s : ByteArray) (n : Int) : ∀ z ∈ deriveBytes s n, 0 ≤ z ∧ z ≤ 255 := by
  intro z hz
  simp only [deriveBytes, List.mem_append, List.mem_singleton] at hz
  rcases hz with (h | rfl) | h
  · exact dataI_rng s z h
  · omega
  · exact wsBytes_rng _ z h

end Go.Proofs.Ytgoajnljgbcmdaa
