/- The law DigestTail, walked. -/
import Derived.Test.YtjimbmgbeklecaaSipO
namespace Go.Proofs.Ytjimbmgbeklecaa
open Go.RowKit
set_option maxRecDepth 100000

theorem run_append_row_none {w : World} {base n c : Nat} {v : Value} {xs : List Int} {ty : TypeId} (h : Row w base v n xs) :
    (Builtin.append_ #[23, 23] ty #[v, .slice none 0 c]).run Try.prog w = .ok v w := by
  obtain ⟨i0, hi, hz0, hz1, hz2⟩ := info_parts infoB
  rcases h.2 with ⟨hv, h0⟩ | ⟨g, cap, hv, hg, hlt, h1, hm, hc, hf⟩
  · subst hv
    simp [Builtin.append_, run_underlying Try.underlying23, sizeOf, typeInfo, hi, Builtin.lenOf, Builtin.firstCells]
  · subst hv
    simp [Builtin.append_, run_underlying Try.underlying23, sizeOf, typeInfo, hi, Builtin.lenOf, Builtin.firstCells, h1, storeCells]
/-- append(b, u...) onto a row, u whatever -/
theorem app_row {ops : Array Oper} {rest : List Oper} {o : Oper} {a : Act} {Q : Exit → Act → World → Prop} {w : World} (hgd : o.guard = none) (s x : Operand)
    (ho : o.op = .call { callee := .builtin .append, args := #[s, x], argTypes := #[23, 23] })
    (base : Nat) (v : Value) (n : Nat) (xs : List Int) (A : Option Addr) (m cap : Nat) (zs : List Int) (hown : Row w base v n xs) (hs : a.eval s = v)
    (hB : Bytes w A m zs) (hx : a.eval x = .slice A m cap) (hn : n + m ≤ 100000000000000) (hb : base ≤ w.heap.size)
    (h : ∀ v' w', Row w' base v' (n + m) (xs ++ zs) → Below base w w' → wpList Try.prog ops Q rest (a.put o.dst v') w') :
    wpList Try.prog ops Q (o :: rest) a w := by
  rcases A with _ | ad
  · have hm : m = 0 := by
      rcases Nat.eq_zero_or_pos m with h0 | h0
      · exact h0
      · obtain ⟨_, e, _⟩ := hB.at_ 0 h0
        cases e
    subst hm
    have hz : zs = [] := List.eq_nil_of_length_eq_zero hB.len
    subst hz
    refine wpList_plain hgd fun K hK => ?_
    have hr := run_append_row_none (ty := o.type) (c := cap) hown
    unfold Oper.wp execOp
    simp only [ho, resolve, invoke, builtin, Sem.run_bind, Sem.run_pure, Result.andThen_ok, List.map_toArray, List.map_cons, List.map_nil, hs, hx, hr]
    exact hK _ _ (h v w (by simpa using hown) (Below.refl _ _))
  · exact app_row1 hgd s x ho base v n xs ad m cap zs hown hs hB hx hn hb h
theorem app_zeros {ops : Array Oper} {rest : List Oper} {o : Oper} {a : Act} {Q : Exit → Act → World → Prop} {w : World} (hgd : o.guard = none) (s x : Operand)
    (ho : o.op = .call { callee := .builtin .append, args := #[s, x], argTypes := #[23, 5] })
    (base : Nat) (v : Value) (n : Nat) (xs : List Int) (k : Nat) (kz : Int) (hk : kz = k) (hown : Row w base v n xs) (hs : a.eval s = v)
    (hx : a.eval x = .int .u8 kz) (hn : n + k ≤ 1000000) (hb : base ≤ w.heap.size)
    (h : ∀ v' w', Row w' base v' (n + k) (xs ++ List.replicate k 0) → Below base w w' → wpList Try.prog ops Q rest (a.put o.dst v') w') :
    wpList Try.prog ops Q (o :: rest) a w := by
  subst hk
  refine wpList_plain hgd fun K hK => ?_
  obtain ⟨v', w', hr, h2, h3⟩ := run_append_zeros_row (ty := o.type) (k := k) hown hn hb
  unfold Oper.wp execOp
  simp only [ho, resolve, invoke, builtin, Sem.run_bind, Sem.run_pure, Result.andThen_ok, List.map_toArray, List.map_cons, List.map_nil, hs, hx, hr]
  exact hK _ _ (h v' w' h2 h3)
theorem Row.nil (w : World) (base : Nat) : Row w base (.slice none 0 0) 0 [] := ⟨rfl, .inl ⟨rfl, rfl⟩⟩

set_option maxHeartbeats 1000000 in
theorem tail_law (x : BitVec 64) (A : Option Addr) (n cap : Nat) (zs : List Int) (z : Int) (w : World) (hb : Bytes w A n zs) (hc : n ≤ cap) (hm : cap ≤ 9223372036854775807) (hz0 : 0 ≤ z) (hz1 : z ≤ 255) :
    Calls Try.prog 6 #[.int .u64 (val x), .slice A n cap, .int .u8 z] w fun e w' => e = .returned (.bool true) ∧ Below w.heap.size w w' := by
  have HB := Lib.hid hb
  clear hb
  by_cases hlt : 24 < n
  · go_enter Try.func6, Try.ntmps6
    go_wp2_with fail
    refine (awake_any _).mono ?_
    rintro e w1 ⟨rfl, hb1⟩
    go_wp2
    go_ret
    exact ⟨rfl, hb1⟩
  · obtain ⟨k, hk, hk17⟩ : ∃ k : Nat, z % 17 = k ∧ k ≤ 16 := ⟨(z % 17).toNat, by omega, by omega⟩
    have HKZ := Lib.hid hk
    clear hk
    go_enter Try.func6, Try.ntmps6
    go_wp2_with (first
      | (at_builtin; refine app_row rfl _ _ rfl w.heap.size _ 0 [] A n cap zs (Row.nil w _) rfl HB.out rfl (by omega) (Nat.le_refl _) ?_; intro v1 w1 hr1 hb1; have hsz1 := hb1.size; have HR1 := Lib.hid hr1; clear hr1)
      | (at_builtin; refine app_zeros rfl _ _ rfl w.heap.size v1 _ _ k _ HKZ.out HR1.out rfl rfl (by omega) hsz1 ?_; intro v2 w2 hr2 hb2; have HR2 := Lib.hid hr2; clear hr2)
      | fail)
    have hb12 := hb1.trans hb2
    have hsz2 := hb12.size
    have HB2 := Lib.hid hb12
    clear hb1 hb2 hb12
    have hrng : ∀ y ∈ [] ++ zs ++ List.replicate k 0, 0 ≤ y ∧ y ≤ 255 := by
      intro y hy
      simp only [List.nil_append, List.mem_append, List.mem_replicate] at hy
      rcases hy with h | ⟨_, rfl⟩
      · exact HB.out.rng y h
      · omega
    obtain ⟨A2, cap2, rfl, hc2, hm2, hB2⟩ := HR2.out.bytes hrng
    rw [Nat.zero_add] at hB2 hc2
    have HBB := Lib.hid hB2
    clear hB2 hrng
    generalize [] ++ zs ++ List.replicate k 0 = zs2 at *
    refine (mac_any x 3 A n cap zs _ (HB.out.below HB2.out) hc hm).mono ?_
    rintro e w3 ⟨rfl, hb3⟩
    have hb13 := HB2.out.trans (hb3.mono hsz2)
    have HB3 := Lib.hid hb13
    have HBB3 := Lib.hid (HBB.out.below hb3)
    clear hb13 hb3
    go_wp2_with fail
    refine (macR_any x 3 A n cap zs _ (HB.out.below HB3.out) (by omega)).mono ?_
    rintro e w4 ⟨rfl, hb4⟩
    have hb14 := HB3.out.trans (hb4.mono HB3.out.size)
    have HB4 := Lib.hid hb14
    have HBB4 := Lib.hid (HBB3.out.below hb4)
    clear hb14 hb4
    go_wp2_with fail
    refine (mac_any x 3 A2 (n + k) cap2 zs2 _ HBB4.out hc2 hm2).mono ?_
    rintro e w5 ⟨rfl, hb5⟩
    have hb15 := HB4.out.trans (hb5.mono HB4.out.size)
    have HB5 := Lib.hid hb15
    have HBB5 := Lib.hid (HBB4.out.below hb5)
    clear hb15 hb5
    go_wp2_with fail
    refine (macR_any x 3 A2 (n + k) cap2 zs2 _ HBB5.out (by omega)).mono ?_
    rintro e w6 ⟨rfl, hb6⟩
    have hb16 := HB5.out.trans (hb6.mono HB5.out.size)
    have HB6 := Lib.hid hb16
    clear hb16 hb6
    go_wp2_with fail
    refine (awake_any _).mono ?_
    rintro e w7 ⟨rfl, hb7⟩
    go_wp2
    go_ret
    exact ⟨rfl, HB6.out.trans (hb7.mono HB6.out.size)⟩
theorem tail_law_at (x : Int) (hx : 0 ≤ x ∧ x ≤ 18446744073709551615) (A : Option Addr) (n cap : Nat) (zs : List Int) (z : Int) (w : World) (hb : Bytes w A n zs) (hc : n ≤ cap) (hm : cap ≤ 9223372036854775807) (hz : 0 ≤ z ∧ z ≤ 255) :
    Calls Try.prog 6 #[.int .u64 x, .slice A n cap, .int .u8 z] w fun e w' => e = .returned (.bool true) ∧ Below w.heap.size w w' := by
  rw [val_of hx.1 hx.2]
  exact tail_law _ A n cap zs z w hb hc hm hz.1 hz.2
end Go.Proofs.Ytjimbmgbeklecaa
