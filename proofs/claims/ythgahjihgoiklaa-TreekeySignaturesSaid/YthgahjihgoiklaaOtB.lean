/- Lists of numbers in memory; Split of both. -/
import Derived.Test.YthgahjihgoiklaaOtA
namespace Go.Proofs.Ythgahjihgoiklaa
open Go.RowKit
set_option maxRecDepth 100000

/-- a slice value that holds the numbers l -/
structure Ns (w : World) (A : Option Addr) (n : Nat) (l : List Int) : Prop where
  len : l.length = n
  at_ : ∀ i, i < n → ∃ a, A = some a ∧ w.cell? (a.add i) = some (.int .i64 (l.getD i 0))
theorem Ns.below {w w' : World} {A : Option Addr} {n : Nat} {l : List Int} (h : Ns w A n l) (hb : Below w.heap.size w w') : Ns w' A n l :=
  ⟨h.len, fun i hi => by
    obtain ⟨a, e, hc⟩ := h.at_ i hi
    exact ⟨a, e, (hb.cell (cell_in hc)).trans hc⟩⟩
theorem iv_at (l : List Int) (j : Nat) (h : j < l.length) : (iv l)[j]? = some (.int .i64 (l.getD j 0)) := by
  simp only [iv, List.getElem?_map, List.getD]
  rw [List.getElem?_eq_getElem h]; rfl
theorem Cs.nums {w : World} {g : Nat} {t : TypeId} {l : List Int} (h : Cs w g t (iv l)) : Ns w (some ⟨g, 0, none⟩) l.length l :=
  ⟨rfl, fun i hi => ⟨_, rfl, by rw [addr_add, h.cell, iv_at l i hi]⟩⟩
theorem iv_one' (l : List Int) : ∀ u ∈ iv l, u.oneCell' = true := by
  intro u hu
  simp only [iv, List.mem_map] at hu
  obtain ⟨z, _, rfl⟩ := hu
  rfl
theorem Ns.cells {w : World} {a : Addr} {m : Nat} {l : List Int} (h : Ns w (some a) m l) : ∀ j u, (iv l)[j]? = some u → w.cell? (a.add j) = some u := by
  intro j u hj
  have hjm : j < l.length := by
    rcases Nat.lt_or_ge j l.length with h1 | h1
    · exact h1
    · rw [List.getElem?_eq_none (by rw [iv_len]; exact h1)] at hj; cases hj
  rw [iv_at l j hjm] at hj
  cases hj
  obtain ⟨a2, e, hc⟩ := h.at_ j (by have := h.len; omega)
  cases e
  exact hc
theorem infoI : (Try.prog.info? 3).map (fun i => (i.zero, i.size, i.bytes)) = some (some (.int .i64 0), 1, 8) := by kernel_rfl
theorem own_nums {w : World} {base n : Nat} {v : Value} {l : List Int} (h : w.ownsRow base 3 1 v n (iv l)) :
    ∃ A cap, v = .slice A n cap ∧ Ns w A n l := by
  have hl : l.length = n := by have := h.1; rw [iv_len] at this; omega
  rcases h.2 with ⟨hv, h0⟩ | ⟨g, cap, cur, hv, _, _, h1, h2, _⟩
  · subst h0
    exact ⟨none, 0, hv, hl, fun i hi => absurd hi (by omega)⟩
  · refine ⟨_, cap, hv, hl, fun i hi => ⟨_, rfl, ?_⟩⟩
    exact h.cells (g := g) (by rw [hv]; rfl) i _ (iv_at l i (by omega))

/-- append(l, x, y, ..) of numbers in the block that was made last, l the call's own -/
theorem app_nums {ops : Array Oper} {rest : List Oper} {o : Oper} {a : Act} {Q : Exit → Act → World → Prop} {w : World} (hgd : o.guard = none) (s x : Operand)
    (ho : o.op = .call { callee := .builtin .append, args := #[s, x], argTypes := #[78, 78] })
    (base : Nat) (v : Value) (n : Nat) (xs : List Int) (m : Nat) (l : List Int) (hown : w.ownsRow base 3 1 v n (iv xs)) (hs : a.eval s = v)
    (c : Array Value) (hc : c = (iv l).toArray) (hm : l.length = m) (hx : a.eval x = .slice (some ⟨w.heap.size, 0, none⟩) m m) (hn : n + m ≤ 1000000000) (hb : base ≤ w.heap.size)
    (h : ∀ v' w', w'.ownsRow base 3 1 v' (n + m) (iv (xs ++ l)) → Below base w w' → wpList Try.prog ops Q rest (a.put o.dst v') w') :
    wpList Try.prog ops Q (o :: rest) a (w.alloc (.cells c 3)) := by
  subst hc
  obtain ⟨i0, hi, hz0, hz1, hz2⟩ := info_parts infoI
  have hN : Ns (w.alloc (.cells (iv l).toArray 3)) (some ⟨w.heap.size, 0, none⟩) m l := by
    have := (Cs.new w 3 (iv l)).nums
    rw [hm] at this
    exact this
  refine wpList_append_own _ hgd s x 78 ho base 3 i0 (.int .i64 0) 1 8 Try.underlying78 hi hz0 hz1 hz2 rfl (by decide) v n (iv xs) hs (hown.alloc _) ⟨w.heap.size, 0, none⟩ m m (iv l) hx (by rw [iv_len, hm, Nat.mul_one]) hN.cells (iv_one' l) (by unfold maxLen; omega) (by omega) (by simp; omega) ?_
  intro v' w' h1 h2 _
  rw [← iv_app] at h1
  exact h v' w' h1 (((Below.refl base w).alloc hb _).trans (below_of_grown (hown.alloc _) (by simp; omega) h2))

theorem digits_take (m : BitVec 64) (k : Nat) : (List.range k).map (dig m) ++ [dig m k] = (List.range (k + 1)).map (dig m) := by simp [List.range_succ]
theorem digits_end (m : BitVec 64) : (List.range 16).map (dig m) ++ [chkTo m 16 / 16, chkTo m 16 % 16] = digits m := by
  rw [show chkTo m 16 / 16 = dig m 16 from rfl, show chkTo m 16 % 16 = dig m 17 from rfl]
  rfl

set_option maxHeartbeats 1000000 in
theorem splitR_any (m : BitVec 64) (w : World) :
    Calls Try.prog 53 #[.int .u64 (val m)] w fun e w' => ∃ A c, e = .returned (.slice A 18 c) ∧ Ns w' A 18 (digits m) ∧ Below w.heap.size w w' := by
  go_enter Try.func53, Try.ntmps53
  go_wp2
  go_loopw [3, 4, 5] (fun v s i wr => ∃ k : Nat, ∃ z : Int, i = .int .i64 z ∧ Hid (z = 15 - k) ∧ k ≤ 16 ∧ -1 ≤ z ∧ z ≤ 15 ∧ s = .int .i64 (chkTo m k) ∧ wr.ownsRow w.heap.size 3 1 v k (iv ((List.range k).map (dig m))) ∧ Below w.heap.size w wr) (fun _ _ i _ => (intOf i + 1).toNat)
  case atStart => exact ⟨0, 15, rfl, Lib.hid rfl, by omega, by omega, by omega, rfl, World.ownsRow_nil w _ _ _, Below.refl _ _⟩
  case round =>
    obtain ⟨k, z, rfl, Hz, hk, hz1, hz2, rfl, hok, hbk⟩ := hrel
    have hsz := hbk.size
    have HK := Lib.hid hok
    have HB := Lib.hid hbk
    clear hok hbk
    have hcr := chkTo_rng m k
    by_cases hz0 : 0 ≤ z
    · obtain ⟨K, rfl⟩ := Int.eq_ofNat_of_zero_le hz0
      go_wp2_with (at_builtin; (refine app_nums rfl _ _ rfl w.heap.size _ k _ 1 [_] HK.out rfl _ rfl rfl rfl (by omega) hsz ?_); intro v2 w2 ho2 hb2)
      have hkK : k < 16 ∧ K = 15 - k := by have := Hz.out; omega
      rw [hkK.2, dig_eq m k hkK.1, digits_take] at ho2
      rw [hkK.2, dig_eq m k hkK.1]
      go_roundw
      case rel => exact ⟨k + 1, _, rfl, Lib.hid (by have := Hz.out; omega), by omega, by omega, by omega, by rw [dig_lt m k hkK.1, wrap_chk m k hkK.1], ho2, HB.out.trans hb2⟩
      case measure => (simp [intOf] <;> omega)
    · have hk16 : k = 16 := by have := Hz.out; omega
      obtain rfl : z = -1 := by omega
      subst hk16
      go_wp2_with (at_builtin; (refine app_nums rfl _ _ rfl w.heap.size _ 16 _ 2 [_, _] HK.out rfl _ rfl rfl rfl (by omega) hsz ?_); intro v2 w2 ho2 hb2)
      go_ret
      rw [digits_end] at ho2
      obtain ⟨A, c, rfl, hN⟩ := own_nums ho2
      exact ⟨A, ⟨c, rfl⟩, hN, HB.out.trans hb2⟩
end Go.Proofs.Ythgahjihgoiklaa
