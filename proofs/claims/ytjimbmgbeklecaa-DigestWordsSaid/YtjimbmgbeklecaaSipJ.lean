/- Derive of both. -/
import Derived.Test.YtjimbmgbeklecaaSipI
namespace Go.Proofs.Ytjimbmgbeklecaa
open Go.RowKit
set_option maxRecDepth 100000

theorem owns_below {w w' : World} {base e size n : Nat} {v : Value} {xs : List Value} (h : w.ownsRow base e size v n xs) (hb : Below w.heap.size w w') : w'.ownsRow base e size v n xs := by
  refine ⟨h.1, ?_⟩
  rcases h.2 with h0 | ⟨g, cap, cur, hv, hg, hh, hc⟩
  · exact .inl h0
  · refine .inr ⟨g, cap, cur, hv, hg, ?_, hc⟩
    have hlt : g < w.heap.size := by
      rcases Nat.lt_or_ge g w.heap.size with h1 | h1
      · exact h1
      · rw [Array.getElem?_eq_none h1] at hh; cases hh
    rw [hb.block g hlt, hh]
theorem own_bytes {w : World} {base n : Nat} {v : Value} {zs : List Int} (h : w.ownsRow base 5 1 v n (bv zs)) (hr : ∀ z ∈ zs, 0 ≤ z ∧ z ≤ 255) :
    ∃ A cap, v = .slice A n cap ∧ n ≤ cap ∧ cap ≤ 9223372036854775807 ∧ Bytes w A n zs := by
  have hl : zs.length = n := by have := h.1; rw [bv_len] at this; omega
  rcases h.2 with ⟨hv, h0⟩ | ⟨g, cap, cur, hv, _, _, h1, h2, _⟩
  · subst h0
    exact ⟨none, 0, hv, Nat.le_refl _, by omega, hl, hr, fun i hi => absurd hi (by omega)⟩
  · refine ⟨_, cap, hv, h1, h2, hl, hr, fun i hi => ⟨_, rfl, ?_⟩⟩
    have := h.cells (g := g) (by rw [hv]; rfl) i (.int .u8 (zs.getD i 0)) (by
      simp only [bv, List.getElem?_map, List.getD]
      rw [List.getElem?_eq_getElem (by omega)]; rfl)
    exact this

/-- append(b, u...) of bytes, b the call's own -/
theorem app_bytes {ops : Array Oper} {rest : List Oper} {o : Oper} {a : Act} {Q : Exit → Act → World → Prop} {w : World} (hgd : o.guard = none) (s x : Operand)
    (ho : o.op = .call { callee := .builtin .append, args := #[s, x], argTypes := #[23, 23] })
    (base : Nat) (v : Value) (n : Nat) (xs : List Int) (A : Option Addr) (m cap : Nat) (zs : List Int) (hown : w.ownsRow base 5 1 v n (bv xs)) (hs : a.eval s = v)
    (hB : Bytes w A m zs) (hx : a.eval x = .slice A m cap) (h0 : 0 < m) (hn : n + m ≤ 100000000000000) (hb : base ≤ w.heap.size)
    (h : ∀ v' w', w'.ownsRow base 5 1 v' (n + m) (bv (xs ++ zs)) → Below base w w' → wpList Try.prog ops Q rest (a.put o.dst v') w') :
    wpList Try.prog ops Q (o :: rest) a w := by
  obtain ⟨i0, hi, hz0, hz1, hz2⟩ := info_parts infoB
  obtain ⟨ad, rfl, _⟩ := hB.at_ 0 h0
  refine wpList_append_own _ hgd s x 23 ho base 5 i0 (.int .u8 0) 1 1 Try.underlying23 hi hz0 hz1 hz2 rfl (by decide) v n (bv xs) hs hown ad m cap (bv zs) hx (by rw [bv_len, hB.len, Nat.mul_one]) ?_ ?_ (by unfold maxLen; omega) (by omega) hb ?_
  · intro j u hj
    simp only [bv, List.getElem?_map, Option.map_eq_some_iff] at hj
    obtain ⟨z, hz, rfl⟩ := hj
    have hjm : j < m := by
      have := hB.len
      rcases Nat.lt_or_ge j zs.length with h1 | h1
      · omega
      · rw [List.getElem?_eq_none h1] at hz; cases hz
    obtain ⟨a2, e, hc⟩ := hB.at_ j hjm
    cases e
    rw [hc]
    simp [List.getD, hz]
  · intro u hu
    simp only [bv, List.mem_map] at hu
    obtain ⟨z, _, rfl⟩ := hu
    rfl
  · intro v' w' h1 h2 _
    rw [← bv_app] at h1
    exact h v' w' h1 (below_of_grown hown hb h2)

/-- append(b, s...) of a string's bytes, b the call's own -/
theorem app_str {ops : Array Oper} {rest : List Oper} {o : Oper} {a : Act} {Q : Exit → Act → World → Prop} {w : World} (hgd : o.guard = none) (sl x : Operand)
    (ho : o.op = .call { callee := .builtin .append, args := #[sl, x], argTypes := #[23, 9] })
    (base : Nat) (v : Value) (n : Nat) (xs : List Value) (s : ByteArray) (hown : w.ownsRow base 5 1 v n xs) (hs : a.eval sl = v)
    (hx : a.eval x = .string s) (hn : n + s.size ≤ 100000000000000) (hb : base ≤ w.heap.size)
    (h : ∀ v' w', w'.ownsRow base 5 1 v' (n + s.size) (xs ++ Lib.strCells s) → Below base w w' → wpList Try.prog ops Q rest (a.put o.dst v') w') :
    wpList Try.prog ops Q (o :: rest) a w := by
  obtain ⟨i0, hi, hz0, hz1, hz2⟩ := info_parts infoB
  refine Lib.wpList_append_own_string _ hgd sl x 23 9 ho base 5 i0 Try.underlying23 Try.underlying9 hi hz0 hz1 hz2 v n xs hs hown s hx (by unfold maxLen; omega) (by omega) hb ?_
  intro v' w' h1 h2 _
  exact h v' w' h1 (below_of_grown hown hb h2)

def dataI (d : ByteArray) : List Int := d.data.toList.map fun b => (b.toNat : Int)
theorem dataI_cells (d : ByteArray) : bv (dataI d) = Lib.strCells d := by simp [bv, dataI, Lib.strCells]
theorem dataI_len (d : ByteArray) : (dataI d).length = d.size := by simp [dataI]
theorem dataI_rng (d : ByteArray) : ∀ z ∈ dataI d, 0 ≤ z ∧ z ≤ 255 := by
  intro z hz
  simp only [dataI, List.mem_map] at hz
  obtain ⟨b, _, rfl⟩ := hz
  have := b.toNat_lt
  omega
def deriveBytes (s : ByteArray) (n : Int) : List Int := dataI s ++ [0] ++ wsBytes [BitVec.ofInt 64 n]
def sipDerive (x : BitVec 64) (s : ByteArray) (n : Int) : BitVec 64 := sipMac x 4 (deriveBytes s n)
theorem deriveBytes_rng (s : ByteArray) (n : Int) : ∀ z ∈ deriveBytes s n, 0 ≤ z ∧ z ≤ 255 := by
  intro z hz
  simp only [deriveBytes, List.mem_append, List.mem_singleton] at hz
  rcases hz with (h | rfl) | h
  · exact dataI_rng s z h
  · omega
  · exact wsBytes_rng _ z h

set_option maxHeartbeats 1000000 in
theorem derive_any (x : BitVec 64) (s : ByteArray) (n : Int) (w : World) (hs : s.size ≤ 1000000000000) :
    Calls Try.prog 12 #[.int .u64 (val x), .string s, .int .i64 n] w fun e w' => e = .returned (.int .u64 (val (sipDerive x s n))) ∧ Below w.heap.size w w' := by
  obtain ⟨i0, hi, hz0, hz1, hz2⟩ := info_parts infoB
  obtain ⟨w1, hmk, hown1, hg1⟩ := run_make_own (P := Try.prog) w w.heap.size 23 5 i0 (.int .u8 0) 1 Try.underlying23 hi hz0 hz1 .i64 .i64 (s.size + 1 + 8) (by rw [hz2]; omega) (by unfold maxLen; omega) (Nat.le_refl _)
  rw [show (((s.size + 1 + 8 : Nat)) : Int) = (s.size : Int) + 1 + 8 by omega] at hmk
  have hb1 : Below w.heap.size w w1 := (Below.refl _ w).grown hg1 (Nat.le_refl _) (by intro k hk; cases hk)
  have hsz1 := hb1.size
  have HB1 := Lib.hid hb1
  clear hz0 hz1 hz2 hi hb1 hg1
  go_enter Try.func12, Try.ntmps12
  go_wp2_with (first
    | (at_builtin; refine app_str rfl _ _ rfl w.heap.size _ 0 [] s hown1 rfl rfl (by omega) hsz1 ?_; intro v2 w2 ho2 hb2; have hsz2 := Nat.le_trans hsz1 hb2.size; have ho2' := Lib.hid ho2; clear ho2)
    | (at_builtin; (refine app_byte rfl _ _ rfl w.heap.size v2 _ _ _ ho2'.out rfl _ rfl rfl (by omega) hsz2 ?_); intro v3 w3 ho3 hb3)
    | fail)
  have hsz3 := Nat.le_trans hsz2 hb3.size
  have hb13 := (HB1.out.trans hb2).trans hb3
  clear hb2 hb3 hown1 hmk
  rw [val_wrap]
  refine (words_any _ 1 1 [BitVec.ofInt 64 n] _ (Ws.one w3 _) (by omega)).mono ?_
  rintro e w4 ⟨v4, rfl, ho4, hb4⟩
  obtain ⟨A4, cap4, rfl, _, _, hB4⟩ := own_bytes ho4 (wsBytes_rng _)
  have ho3' := owns_below (ho3.alloc _) hb4
  rw [show [] ++ Lib.strCells s ++ [Value.int IntKind.u8 0] = bv (dataI s ++ [0]) by rw [bv_app, dataI_cells]; rfl] at ho3'
  have hb14 := hb13.trans ((((Below.refl _ w3).alloc (Nat.le_refl _) _).trans (hb4.mono (by simp))).mono hsz3)
  have hsz4 := hb14.size
  have HB14 := Lib.hid hb14
  have HO3 := Lib.hid ho3'
  have HB4 := Lib.hid hB4
  clear hb14 ho3' hB4 ho3 ho4 hb4 hb13
  go_wp2_with (first
    | (at_builtin; refine app_bytes rfl _ _ rfl w.heap.size v3 _ (dataI s ++ [0]) A4 _ cap4 (wsBytes [BitVec.ofInt 64 n]) HO3.out rfl HB4.out rfl (by omega) (by omega) hsz4 ?_; intro v5 w5 ho5 hb5)
    | fail)
  obtain ⟨A5, cap5, rfl, h51, h52, hB5⟩ := own_bytes ho5 (deriveBytes_rng s n)
  clear ho5
  have hB5' : Bytes w5 A5 (0 + s.size + 1 + 8 * 1) (deriveBytes s n) := hB5
  clear hB5
  have HM := Lib.hid (mac_any x 4 A5 _ cap5 _ _ hB5' h51 h52)
  rw [show sipMac x 4 (deriveBytes s n) = sipDerive x s n from rfl] at HM
  refine HM.out.mono ?_
  rintro e w6 ⟨rfl, hb6⟩
  go_wp2
  go_ret
  exact ⟨rfl, (HB14.out.trans hb5).trans (hb6.mono (Nat.le_trans hsz4 hb5.size))⟩

end Go.Proofs.Ytjimbmgbeklecaa
