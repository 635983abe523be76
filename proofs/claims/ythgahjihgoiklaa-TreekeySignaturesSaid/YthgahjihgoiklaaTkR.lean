/- spoil of the laws of layer 4. -/
import Derived.Test.YthgahjihgoiklaaTkO
namespace Go.Proofs.Ythgahjihgoiklaa
open Go.RowKit
set_option maxRecDepth 100000

theorem bits_low (i : Nat) (hi : i ≤ 62) (x : Int) : bits .and .i64 x (2 ^ i - 1) = x % 2 ^ i := by
  have hpos : 0 < 2 ^ i := Nat.two_pow_pos i
  have hle : 2 ^ i ≤ 2 ^ 62 := Nat.pow_le_pow_right (by decide) hi
  obtain ⟨a, ha⟩ := Int.eq_ofNat_of_zero_le (Int.emod_nonneg x (b := 18446744073709551616) (by decide))
  have hc : ((2 : Int) ^ i - 1) = ((2 ^ i - 1 : Nat) : Int) := by
    rw [Int.natCast_sub hpos]; simp
  have hx : BitVec.ofInt 64 x = BitVec.ofNat 64 a := by
    apply BitVec.eq_of_toNat_eq
    rw [BitVec.toNat_ofInt, BitVec.toNat_ofNat]
    have h2 : x % ((2 ^ 64 : Nat) : Int) = (a : Int) := ha
    rw [h2]
    have : a < 2 ^ 64 := by omega
    rw [Nat.mod_eq_of_lt this]
    simp
  have hd : x % 2 ^ i = ((a % 2 ^ i : Nat) : Int) := by
    have h1 : x % 18446744073709551616 % ((2 ^ i : Nat) : Int) = x % ((2 ^ i : Nat) : Int) := by
      apply Int.emod_emod_of_dvd
      have : (18446744073709551616 : Int) = ((2 ^ 64 : Nat) : Int) := by decide
      rw [this]
      exact_mod_cast Nat.pow_dvd_pow 2 (show i ≤ 64 by omega)
    rw [ha] at h1
    have e : ((2 ^ i : Nat) : Int) = (2 : Int) ^ i := by simp
    rw [e] at h1
    rw [← h1, ← e]
    norm_cast
  have h64 : (2 ^ i - 1) % 2 ^ 64 = 2 ^ i - 1 := Nat.mod_eq_of_lt (by omega)
  have ha64 : a % 2 ^ 64 = a := Nat.mod_eq_of_lt (by omega)
  show IntKind.i64.wrap ((BitVec.ofInt 64 x &&& BitVec.ofInt 64 (2 ^ i - 1)).toNat : Int) = _
  rw [hx, hc, BitVec.ofInt_natCast, BitVec.toNat_and, BitVec.toNat_ofNat, BitVec.toNat_ofNat, h64, ha64, Nat.and_two_pow_sub_one_eq_mod, hd, IntKind.wrap_i64]
  have : a % 2 ^ i < 2 ^ i := Nat.mod_lt _ hpos
  omega
@[go_sem] theorem and3_ (x : Int) : bits .and .i64 x 3 = x % 4 := bits_low 2 (by decide) x
@[go_sem] theorem and7_ (x : Int) : bits .and .i64 x 7 = x % 8 := bits_low 3 (by decide) x
@[go_sem] theorem and31_ (x : Int) : bits .and .i64 x 31 = x % 32 := bits_low 5 (by decide) x
@[go_sem] theorem and65535_ (x : Int) : bits .and .i64 x 65535 = x % 65536 := bits_low 16 (by decide) x

/-- what spoil answers: some signature, its lists the call's own -/
def Spo (w : World) (e : Ending) (w' : World) : Prop := ∃ (L : Int) (A B : Option Addr) (n c n2 c2 : Nat) (cs ps : List (BitVec 64)), e = .returned (.agg #[.int .i64 L, .slice A n c, .slice B n2 c2]) ∧
  Ws w' A n cs ∧ Ws w' B n2 ps ∧ n ≤ 18 ∧ n2 ≤ 5 ∧ Below w.heap.size w w'
theorem Ws.take {w : World} {A : Option Addr} {n k : Nat} {l : List (BitVec 64)} (h : Ws w A n l) (hk : k ≤ n) : Ws w A k (l.take k) :=
  ⟨by rw [List.length_take, h.len]; omega, fun i hi => by
    obtain ⟨a, e, hc⟩ := h.at_ i (by omega)
    refine ⟨a, e, ?_⟩
    rw [hc]
    simp [hi]⟩
theorem own_cap {w : World} {base n c : Nat} {A : Option Addr} {xs : List Value} (h : w.ownsRow base 22 1 (.slice A n c) n xs) (hn : 0 < n) : ∃ g, A = some ⟨g, 0, none⟩ ∧ base ≤ g ∧ n ≤ c ∧ g < w.heap.size := by
  rcases h.2 with ⟨hv, h0⟩ | ⟨g, cap, cur, hv, hg, hh, h1, _, _⟩
  · omega
  · cases hv
    refine ⟨g, rfl, hg, h1, ?_⟩
    rcases Nat.lt_or_ge g w.heap.size with h2 | h2
    · exact h2
    · rw [Array.getElem?_eq_none h2] at hh; cases hh
theorem own_far {w w' : World} {base g B n c : Nat} {xs : List Value} (h : w.ownsRow base 22 1 (.slice (some ⟨g, 0, none⟩) n c) n xs) (hb : Below B w w') (hg : g < B) : w'.ownsRow base 22 1 (.slice (some ⟨g, 0, none⟩) n c) n xs := by
  refine ⟨h.1, ?_⟩
  rcases h.2 with h2 | ⟨g', cap, cur, hv, hb', hh, r⟩
  · exact Or.inl h2
  · have e : g' = g := by cases hv; rfl
    subst e
    exact Or.inr ⟨g', cap, cur, hv, hb', by rw [hb.block g' hg]; exact hh, r⟩

set_option maxHeartbeats 1000000 in
theorem spoil6 (l n : Int) (A B : Option Addr) (h c c2 : Nat) (cs ps : List (BitVec 64)) (w : World) (hA : Ws w A 18 cs) (hB : Ws w B h ps) (hh : h ≤ 4) (hj : n % 8 = 6) :
    Calls Try.prog 16 #[.agg #[.int .i64 l, .slice A 18 c, .slice B h c2], .int .i64 n] w (Spo w) := by
  have HA := Lib.hid hA
  have HP := Lib.hid hB
  obtain ⟨K, hK⟩ := Int.eq_ofNat_of_zero_le (Int.emod_nonneg (n / 8) (b := 65536) (by decide))
  have hK2 : K < 65536 := by omega
  clear hA hB
  have HB0 := Lib.hid (((Below.refl w.heap.size w).alloc (Nat.le_refl _) (.cells #[.int .i64 l, .slice A 18 c, .slice B h c2] 32)).alloc (by simp) (.cells #[.int .i64 0, .slice none 0 0, .slice none 0 0] 32))
  have HK0 := Lib.hid ((Cs.new w 32 [.int .i64 l, .slice A 18 c, .slice B h c2]).grow (.cells #[.int .i64 0, .slice none 0 0, .slice none 0 0] 32))
  have HR0 := Lib.hid (Cs.at (w := w.alloc (.cells #[.int .i64 l, .slice A 18 c, .slice B h c2] 32)) (n := w.heap.size + 1) (by simp) 32 [.int .i64 0, .slice none 0 0, .slice none 0 0])
  go_enter Try.func16, Try.ntmps16
  go_wp2_with (at_builtin; refine app_words rfl _ _ rfl (w.heap.size + 2) (.slice none 0 0) 0 [] A 18 c cs (World.ownsRow_nil _ _ _ _) rfl (HA.out.below HB0.out) rfl (by omega) (by simp) ?_)
  intro v1 w1 ho1 hb1
  obtain ⟨A1, c1, rfl, hW1⟩ := own_words ho1
  have hcl := hW1.len
  obtain ⟨g, rfl, hgb, hgc, hgl⟩ := own_cap ho1 (by decide)
  clear hW1
  have hk1 := HK0.out.below hb1 (by omega)
  have hr1 := HR0.out.below hb1 (by omega)
  have f1 := hk1.free 1
  have k0 := hk1.cell 0
  have k1 := hk1.cell 1
  have k2 := hk1.cell 2
  simp only [List.getElem?_cons_succ, List.getElem?_cons_zero] at k0 k1 k2
  have HB1 := Lib.hid ((HB0.out.trans (hb1.mono (by omega))).setCell (p := ⟨w.heap.size, 1, none⟩) (Nat.le_refl _) (.slice (some ⟨g, 0, none⟩) 18 c1))
  have HO1 := Lib.hid (ownsRow_setCell_below ho1 (a := ⟨w.heap.size, 1, none⟩) (by simp) (.slice (some ⟨g, 0, none⟩) 18 c1))
  have HK1 := Lib.hid (hk1.set_ 1 (.slice (some ⟨g, 0, none⟩) 18 c1))
  have HR1 := Lib.hid (hr1.far_set 1 (.slice (some ⟨g, 0, none⟩) 18 c1) (show w.heap.size + 1 ≠ w.heap.size by omega))
  have hsz1 := hr1.lt
  clear ho1 hk1 hr1 hb1
  go_wp2_with (at_builtin; refine app_words rfl _ _ rfl w1.heap.size (.slice none 0 0) 0 [] B h c2 ps (World.ownsRow_nil _ _ _ _) rfl (HP.out.below HB1.out) rfl (by omega) (by simp) ?_)
  intro v2 w2 ho2 hb2
  obtain ⟨A2, d2, rfl, hW2⟩ := own_words ho2
  have hpl := hW2.len
  clear hW2
  have hss : (w1.setCell ⟨w.heap.size, 1, none⟩ (.slice (some ⟨g, 0, none⟩) 18 c1)).heap.size = w1.heap.size := by simp
  try simp only [Nat.zero_add, List.nil_append] at ho2
  have hsb : w.heap.size + 2 ≤ w1.heap.size := by omega
  have hk2 := HK1.out.below hb2 (by omega)
  have hr2 := HR1.out.below hb2 (by omega)
  simp only [List.set_cons_succ, List.set_cons_zero] at hk2
  clear k0 k1 k2 f1
  have f0 := hk2.free 0
  have f1 := hk2.free 1
  have f2 := hk2.free 2
  have g0 := hr2.free 0
  have g1 := hr2.free 1
  have g2 := hr2.free 2
  have k0 := hk2.cell 0
  have k1 := hk2.cell 1
  have k2 := hk2.cell 2
  have r0 := hr2.cell 0
  have r1 := hr2.cell 1
  have r2 := hr2.cell 2
  simp only [List.getElem?_cons_succ, List.getElem?_cons_zero] at k0 k1 k2 r0 r1 r2
  have HO1b := Lib.hid (owns_below HO1.out (by rw [hss]; exact hb2))
  have HO2 := Lib.hid ho2
  have HB2 := Lib.hid (HB1.out.trans (hb2.mono (by omega)))
  have HKB := Lib.hid (hk2.set_ 2 (.slice A2 h d2))
  have HRB := Lib.hid (hr2.far_set 2 (.slice A2 h d2) (show w.heap.size + 1 ≠ w.heap.size by omega))
  have hw2s : w1.heap.size ≤ w2.heap.size := by have := hb2.size; simpa using this
  clear ho2 hb2 hk2 hr2 hss HK1 HR1 HK0 HR0 HB0 HB1 HO1 HA HP
  have HO1c := Lib.hid (ownsRow_setCell_below HO1b.out (a := ⟨w.heap.size, 2, none⟩) (by simp) (.slice A2 h d2))
  have HO2c := Lib.hid (ownsRow_setCell_below HO2.out (a := ⟨w.heap.size, 2, none⟩) (show w.heap.size < w1.heap.size by omega) (.slice A2 h d2))
  have HB3 := Lib.hid (HB2.out.setCell (p := ⟨w.heap.size, 2, none⟩) (Nat.le_refl _) (.slice A2 h d2))
  clear HO1b HO2 HB2
  go_wp2
  have hf : ∀ (W : World) (base : Nat) (v : Value) (m : Nat) (xs : List Value), W.ownsRow base 22 1 v m xs → w.heap.size + 1 < base → (((W.setCell ⟨w.heap.size + 1, 0, none⟩ (.int .i64 l)).setCell ⟨w.heap.size + 1, 1, none⟩ (.slice (some ⟨g, 0, none⟩) 18 c1)).setCell ⟨w.heap.size + 1, 2, none⟩ (.slice A2 h d2)).ownsRow base 22 1 v m xs := fun W base v m xs h hb =>
    ownsRow_setCell_below (ownsRow_setCell_below (ownsRow_setCell_below h (a := ⟨w.heap.size + 1, 0, none⟩) hb _) (a := ⟨w.heap.size + 1, 1, none⟩) hb _) (a := ⟨w.heap.size + 1, 2, none⟩) hb _
  obtain ⟨A', c', e', hWA⟩ := own_words (hf _ _ _ _ _ HO1c.out (by omega))
  cases e'
  obtain ⟨B', c', e', hWB⟩ := own_words (hf _ _ _ _ _ HO2c.out (by omega))
  cases e'
  refine bodyPost_ret (v := .agg #[.int .i64 l, .slice (some ⟨g, 0, none⟩) 18 c1, .slice A2 h d2]) (by simp [results, Try.results16, go_sem, r0, r1, r2]) rfl ⟨l, (some ⟨g, 0, none⟩), A2, 18, c1, h, d2, _, _, rfl, hWA, hWB, by omega, by omega, ?_⟩
  exact ((((HB3.out).setCell (p := ⟨w.heap.size + 1, 0, none⟩) (by simp) _).setCell (p := ⟨w.heap.size + 1, 1, none⟩) (by simp) _).setCell (p := ⟨w.heap.size + 1, 2, none⟩) (by simp) _)

set_option maxHeartbeats 1000000 in
theorem spoil7 (l n : Int) (A B : Option Addr) (h c c2 : Nat) (cs ps : List (BitVec 64)) (w : World) (hA : Ws w A 18 cs) (hB : Ws w B h ps) (hh : h ≤ 4) (hj : n % 8 = 7) :
    Calls Try.prog 16 #[.agg #[.int .i64 l, .slice A 18 c, .slice B h c2], .int .i64 n] w (Spo w) := by
  have HA := Lib.hid hA
  have HP := Lib.hid hB
  obtain ⟨K, hK⟩ := Int.eq_ofNat_of_zero_le (Int.emod_nonneg (n / 8) (b := 65536) (by decide))
  have hK2 : K < 65536 := by omega
  clear hA hB
  have HB0 := Lib.hid (((Below.refl w.heap.size w).alloc (Nat.le_refl _) (.cells #[.int .i64 l, .slice A 18 c, .slice B h c2] 32)).alloc (by simp) (.cells #[.int .i64 0, .slice none 0 0, .slice none 0 0] 32))
  have HK0 := Lib.hid ((Cs.new w 32 [.int .i64 l, .slice A 18 c, .slice B h c2]).grow (.cells #[.int .i64 0, .slice none 0 0, .slice none 0 0] 32))
  have HR0 := Lib.hid (Cs.at (w := w.alloc (.cells #[.int .i64 l, .slice A 18 c, .slice B h c2] 32)) (n := w.heap.size + 1) (by simp) 32 [.int .i64 0, .slice none 0 0, .slice none 0 0])
  go_enter Try.func16, Try.ntmps16
  go_wp2_with (at_builtin; refine app_words rfl _ _ rfl (w.heap.size + 2) (.slice none 0 0) 0 [] A 18 c cs (World.ownsRow_nil _ _ _ _) rfl (HA.out.below HB0.out) rfl (by omega) (by simp) ?_)
  intro v1 w1 ho1 hb1
  obtain ⟨A1, c1, rfl, hW1⟩ := own_words ho1
  have hcl := hW1.len
  obtain ⟨g, rfl, hgb, hgc, hgl⟩ := own_cap ho1 (by decide)
  clear hW1
  have hk1 := HK0.out.below hb1 (by omega)
  have hr1 := HR0.out.below hb1 (by omega)
  have f1 := hk1.free 1
  have k0 := hk1.cell 0
  have k1 := hk1.cell 1
  have k2 := hk1.cell 2
  simp only [List.getElem?_cons_succ, List.getElem?_cons_zero] at k0 k1 k2
  have HB1 := Lib.hid ((HB0.out.trans (hb1.mono (by omega))).setCell (p := ⟨w.heap.size, 1, none⟩) (Nat.le_refl _) (.slice (some ⟨g, 0, none⟩) 18 c1))
  have HO1 := Lib.hid (ownsRow_setCell_below ho1 (a := ⟨w.heap.size, 1, none⟩) (by simp) (.slice (some ⟨g, 0, none⟩) 18 c1))
  have HK1 := Lib.hid (hk1.set_ 1 (.slice (some ⟨g, 0, none⟩) 18 c1))
  have HR1 := Lib.hid (hr1.far_set 1 (.slice (some ⟨g, 0, none⟩) 18 c1) (show w.heap.size + 1 ≠ w.heap.size by omega))
  have hsz1 := hr1.lt
  clear ho1 hk1 hr1 hb1
  go_wp2_with (at_builtin; refine app_words rfl _ _ rfl w1.heap.size (.slice none 0 0) 0 [] B h c2 ps (World.ownsRow_nil _ _ _ _) rfl (HP.out.below HB1.out) rfl (by omega) (by simp) ?_)
  intro v2 w2 ho2 hb2
  obtain ⟨A2, d2, rfl, hW2⟩ := own_words ho2
  have hpl := hW2.len
  clear hW2
  have hss : (w1.setCell ⟨w.heap.size, 1, none⟩ (.slice (some ⟨g, 0, none⟩) 18 c1)).heap.size = w1.heap.size := by simp
  try simp only [Nat.zero_add, List.nil_append] at ho2
  have hsb : w.heap.size + 2 ≤ w1.heap.size := by omega
  have hk2 := HK1.out.below hb2 (by omega)
  have hr2 := HR1.out.below hb2 (by omega)
  simp only [List.set_cons_succ, List.set_cons_zero] at hk2
  clear k0 k1 k2 f1
  have f0 := hk2.free 0
  have f1 := hk2.free 1
  have f2 := hk2.free 2
  have g0 := hr2.free 0
  have g1 := hr2.free 1
  have g2 := hr2.free 2
  have k0 := hk2.cell 0
  have k1 := hk2.cell 1
  have k2 := hk2.cell 2
  have r0 := hr2.cell 0
  have r1 := hr2.cell 1
  have r2 := hr2.cell 2
  simp only [List.getElem?_cons_succ, List.getElem?_cons_zero] at k0 k1 k2 r0 r1 r2
  have HO1b := Lib.hid (owns_below HO1.out (by rw [hss]; exact hb2))
  have HO2 := Lib.hid ho2
  have HB2 := Lib.hid (HB1.out.trans (hb2.mono (by omega)))
  have HKB := Lib.hid (hk2.set_ 2 (.slice A2 h d2))
  have HRB := Lib.hid (hr2.far_set 2 (.slice A2 h d2) (show w.heap.size + 1 ≠ w.heap.size by omega))
  have hw2s : w1.heap.size ≤ w2.heap.size := by have := hb2.size; simpa using this
  clear ho2 hb2 hk2 hr2 hss HK1 HR1 HK0 HR0 HB0 HB1 HO1 HA HP
  have HO1c := Lib.hid (ownsRow_setCell_below HO1b.out (a := ⟨w.heap.size, 2, none⟩) (by simp) (.slice A2 h d2))
  have HO2c := Lib.hid (ownsRow_setCell_below HO2.out (a := ⟨w.heap.size, 2, none⟩) (show w.heap.size < w1.heap.size by omega) (.slice A2 h d2))
  have HB3 := Lib.hid (HB2.out.setCell (p := ⟨w.heap.size, 2, none⟩) (Nat.le_refl _) (.slice A2 h d2))
  clear HO1b HO2 HB2
  go_wp2
  have hf : ∀ (W : World) (base : Nat) (v : Value) (m : Nat) (xs : List Value), W.ownsRow base 22 1 v m xs → w.heap.size + 1 < base → (((W.setCell ⟨w.heap.size + 1, 0, none⟩ (.int .i64 l)).setCell ⟨w.heap.size + 1, 1, none⟩ (.slice (some ⟨g, 0, none⟩) 18 c1)).setCell ⟨w.heap.size + 1, 2, none⟩ (.slice A2 h d2)).ownsRow base 22 1 v m xs := fun W base v m xs h hb =>
    ownsRow_setCell_below (ownsRow_setCell_below (ownsRow_setCell_below h (a := ⟨w.heap.size + 1, 0, none⟩) hb _) (a := ⟨w.heap.size + 1, 1, none⟩) hb _) (a := ⟨w.heap.size + 1, 2, none⟩) hb _
  obtain ⟨A', c', e', hWA⟩ := own_words (hf _ _ _ _ _ HO1c.out (by omega))
  cases e'
  obtain ⟨B', c', e', hWB⟩ := own_words (hf _ _ _ _ _ HO2c.out (by omega))
  cases e'
  refine bodyPost_ret (v := .agg #[.int .i64 l, .slice (some ⟨g, 0, none⟩) 18 c1, .slice A2 h d2]) (by simp [results, Try.results16, go_sem, r0, r1, r2]) rfl ⟨l, (some ⟨g, 0, none⟩), A2, 18, c1, h, d2, _, _, rfl, hWA, hWB, by omega, by omega, ?_⟩
  exact ((((HB3.out).setCell (p := ⟨w.heap.size + 1, 0, none⟩) (by simp) _).setCell (p := ⟨w.heap.size + 1, 1, none⟩) (by simp) _).setCell (p := ⟨w.heap.size + 1, 2, none⟩) (by simp) _)

set_option maxHeartbeats 1000000 in
theorem spoil0 (l n : Int) (A B : Option Addr) (h c c2 : Nat) (cs ps : List (BitVec 64)) (w : World) (hA : Ws w A 18 cs) (hB : Ws w B h ps) (hh : h ≤ 4) (hj : n % 8 = 0) :
    Calls Try.prog 16 #[.agg #[.int .i64 l, .slice A 18 c, .slice B h c2], .int .i64 n] w (Spo w) := by
  have HA := Lib.hid hA
  have HP := Lib.hid hB
  obtain ⟨K, hK⟩ := Int.eq_ofNat_of_zero_le (Int.emod_nonneg (n / 8) (b := 65536) (by decide))
  have hK2 : K < 65536 := by omega
  clear hA hB
  have HB0 := Lib.hid (((Below.refl w.heap.size w).alloc (Nat.le_refl _) (.cells #[.int .i64 l, .slice A 18 c, .slice B h c2] 32)).alloc (by simp) (.cells #[.int .i64 0, .slice none 0 0, .slice none 0 0] 32))
  have HK0 := Lib.hid ((Cs.new w 32 [.int .i64 l, .slice A 18 c, .slice B h c2]).grow (.cells #[.int .i64 0, .slice none 0 0, .slice none 0 0] 32))
  have HR0 := Lib.hid (Cs.at (w := w.alloc (.cells #[.int .i64 l, .slice A 18 c, .slice B h c2] 32)) (n := w.heap.size + 1) (by simp) 32 [.int .i64 0, .slice none 0 0, .slice none 0 0])
  go_enter Try.func16, Try.ntmps16
  go_wp2_with (at_builtin; refine app_words rfl _ _ rfl (w.heap.size + 2) (.slice none 0 0) 0 [] A 18 c cs (World.ownsRow_nil _ _ _ _) rfl (HA.out.below HB0.out) rfl (by omega) (by simp) ?_)
  intro v1 w1 ho1 hb1
  obtain ⟨A1, c1, rfl, hW1⟩ := own_words ho1
  have hcl := hW1.len
  obtain ⟨g, rfl, hgb, hgc, hgl⟩ := own_cap ho1 (by decide)
  clear hW1
  have hk1 := HK0.out.below hb1 (by omega)
  have hr1 := HR0.out.below hb1 (by omega)
  have f1 := hk1.free 1
  have k0 := hk1.cell 0
  have k1 := hk1.cell 1
  have k2 := hk1.cell 2
  simp only [List.getElem?_cons_succ, List.getElem?_cons_zero] at k0 k1 k2
  have HB1 := Lib.hid ((HB0.out.trans (hb1.mono (by omega))).setCell (p := ⟨w.heap.size, 1, none⟩) (Nat.le_refl _) (.slice (some ⟨g, 0, none⟩) 18 c1))
  have HO1 := Lib.hid (ownsRow_setCell_below ho1 (a := ⟨w.heap.size, 1, none⟩) (by simp) (.slice (some ⟨g, 0, none⟩) 18 c1))
  have HK1 := Lib.hid (hk1.set_ 1 (.slice (some ⟨g, 0, none⟩) 18 c1))
  have HR1 := Lib.hid (hr1.far_set 1 (.slice (some ⟨g, 0, none⟩) 18 c1) (show w.heap.size + 1 ≠ w.heap.size by omega))
  have hsz1 := hr1.lt
  clear ho1 hk1 hr1 hb1
  go_wp2_with (at_builtin; refine app_words rfl _ _ rfl w1.heap.size (.slice none 0 0) 0 [] B h c2 ps (World.ownsRow_nil _ _ _ _) rfl (HP.out.below HB1.out) rfl (by omega) (by simp) ?_)
  intro v2 w2 ho2 hb2
  obtain ⟨A2, d2, rfl, hW2⟩ := own_words ho2
  have hpl := hW2.len
  clear hW2
  have hss : (w1.setCell ⟨w.heap.size, 1, none⟩ (.slice (some ⟨g, 0, none⟩) 18 c1)).heap.size = w1.heap.size := by simp
  try simp only [Nat.zero_add, List.nil_append] at ho2
  have hsb : w.heap.size + 2 ≤ w1.heap.size := by omega
  have hk2 := HK1.out.below hb2 (by omega)
  have hr2 := HR1.out.below hb2 (by omega)
  simp only [List.set_cons_succ, List.set_cons_zero] at hk2
  clear k0 k1 k2 f1
  have f0 := hk2.free 0
  have f1 := hk2.free 1
  have f2 := hk2.free 2
  have g0 := hr2.free 0
  have g1 := hr2.free 1
  have g2 := hr2.free 2
  have k0 := hk2.cell 0
  have k1 := hk2.cell 1
  have k2 := hk2.cell 2
  have r0 := hr2.cell 0
  have r1 := hr2.cell 1
  have r2 := hr2.cell 2
  simp only [List.getElem?_cons_succ, List.getElem?_cons_zero] at k0 k1 k2 r0 r1 r2
  have HO1b := Lib.hid (owns_below HO1.out (by rw [hss]; exact hb2))
  have HO2 := Lib.hid ho2
  have HB2 := Lib.hid (HB1.out.trans (hb2.mono (by omega)))
  have HKB := Lib.hid (hk2.set_ 2 (.slice A2 h d2))
  have HRB := Lib.hid (hr2.far_set 2 (.slice A2 h d2) (show w.heap.size + 1 ≠ w.heap.size by omega))
  have hw2s : w1.heap.size ≤ w2.heap.size := by have := hb2.size; simpa using this
  clear ho2 hb2 hk2 hr2 hss HK1 HR1 HK0 HR0 HB0 HB1 HO1 HA HP
  have HO1c := Lib.hid (ownsRow_setCell_below HO1b.out (a := ⟨w.heap.size, 2, none⟩) (by simp) (.slice A2 h d2))
  have HO2c := Lib.hid (ownsRow_setCell_below HO2.out (a := ⟨w.heap.size, 2, none⟩) (show w.heap.size < w1.heap.size by omega) (.slice A2 h d2))
  have HB3 := Lib.hid (HB2.out.setCell (p := ⟨w.heap.size, 2, none⟩) (Nat.le_refl _) (.slice A2 h d2))
  clear HO1b HO2 HB2
  have HO1d := Lib.hid (ownsRow_setCell_below HO1c.out (a := ⟨w.heap.size, 0, none⟩) (by simp) (.int .i64 ((K : Int) % 32 - 2)))
  have HO2d := Lib.hid (ownsRow_setCell_below HO2c.out (a := ⟨w.heap.size, 0, none⟩) (show w.heap.size < w1.heap.size by omega) (.int .i64 ((K : Int) % 32 - 2)))
  have HB4 := Lib.hid (HB3.out.setCell (p := ⟨w.heap.size, 0, none⟩) (Nat.le_refl _) (.int .i64 ((K : Int) % 32 - 2)))
  go_wp2
  have hf : ∀ (W : World) (base : Nat) (v : Value) (m : Nat) (xs : List Value), W.ownsRow base 22 1 v m xs → w.heap.size + 1 < base → (((W.setCell ⟨w.heap.size + 1, 0, none⟩ (.int .i64 ((K : Int) % 32 - 2))).setCell ⟨w.heap.size + 1, 1, none⟩ (.slice (some ⟨g, 0, none⟩) 18 c1)).setCell ⟨w.heap.size + 1, 2, none⟩ (.slice A2 h d2)).ownsRow base 22 1 v m xs := fun W base v m xs h hb =>
    ownsRow_setCell_below (ownsRow_setCell_below (ownsRow_setCell_below h (a := ⟨w.heap.size + 1, 0, none⟩) hb _) (a := ⟨w.heap.size + 1, 1, none⟩) hb _) (a := ⟨w.heap.size + 1, 2, none⟩) hb _
  obtain ⟨A', c', e', hWA⟩ := own_words (hf _ _ _ _ _ HO1d.out (by omega))
  cases e'
  obtain ⟨B', c', e', hWB⟩ := own_words (hf _ _ _ _ _ HO2d.out (by omega))
  cases e'
  refine bodyPost_ret (v := .agg #[.int .i64 ((K : Int) % 32 - 2), .slice (some ⟨g, 0, none⟩) 18 c1, .slice A2 h d2]) (by simp [results, Try.results16, go_sem, r0, r1, r2]) rfl ⟨((K : Int) % 32 - 2), (some ⟨g, 0, none⟩), A2, 18, c1, h, d2, _, _, rfl, hWA, hWB, by omega, by omega, ?_⟩
  exact ((((HB4.out).setCell (p := ⟨w.heap.size + 1, 0, none⟩) (by simp) _).setCell (p := ⟨w.heap.size + 1, 1, none⟩) (by simp) _).setCell (p := ⟨w.heap.size + 1, 2, none⟩) (by simp) _)

set_option maxHeartbeats 1000000 in
theorem spoil1 (l n : Int) (A B : Option Addr) (h c c2 : Nat) (cs ps : List (BitVec 64)) (w : World) (hA : Ws w A 18 cs) (hB : Ws w B h ps) (hh : h ≤ 4) (hj : n % 8 = 1) :
    Calls Try.prog 16 #[.agg #[.int .i64 l, .slice A 18 c, .slice B h c2], .int .i64 n] w (Spo w) := by
  have HA := Lib.hid hA
  have HP := Lib.hid hB
  obtain ⟨K, hK⟩ := Int.eq_ofNat_of_zero_le (Int.emod_nonneg (n / 8) (b := 65536) (by decide))
  have hK2 : K < 65536 := by omega
  clear hA hB
  have HB0 := Lib.hid (((Below.refl w.heap.size w).alloc (Nat.le_refl _) (.cells #[.int .i64 l, .slice A 18 c, .slice B h c2] 32)).alloc (by simp) (.cells #[.int .i64 0, .slice none 0 0, .slice none 0 0] 32))
  have HK0 := Lib.hid ((Cs.new w 32 [.int .i64 l, .slice A 18 c, .slice B h c2]).grow (.cells #[.int .i64 0, .slice none 0 0, .slice none 0 0] 32))
  have HR0 := Lib.hid (Cs.at (w := w.alloc (.cells #[.int .i64 l, .slice A 18 c, .slice B h c2] 32)) (n := w.heap.size + 1) (by simp) 32 [.int .i64 0, .slice none 0 0, .slice none 0 0])
  go_enter Try.func16, Try.ntmps16
  go_wp2_with (at_builtin; refine app_words rfl _ _ rfl (w.heap.size + 2) (.slice none 0 0) 0 [] A 18 c cs (World.ownsRow_nil _ _ _ _) rfl (HA.out.below HB0.out) rfl (by omega) (by simp) ?_)
  intro v1 w1 ho1 hb1
  obtain ⟨A1, c1, rfl, hW1⟩ := own_words ho1
  have hcl := hW1.len
  obtain ⟨g, rfl, hgb, hgc, hgl⟩ := own_cap ho1 (by decide)
  clear hW1
  have hk1 := HK0.out.below hb1 (by omega)
  have hr1 := HR0.out.below hb1 (by omega)
  have f1 := hk1.free 1
  have k0 := hk1.cell 0
  have k1 := hk1.cell 1
  have k2 := hk1.cell 2
  simp only [List.getElem?_cons_succ, List.getElem?_cons_zero] at k0 k1 k2
  have HB1 := Lib.hid ((HB0.out.trans (hb1.mono (by omega))).setCell (p := ⟨w.heap.size, 1, none⟩) (Nat.le_refl _) (.slice (some ⟨g, 0, none⟩) 18 c1))
  have HO1 := Lib.hid (ownsRow_setCell_below ho1 (a := ⟨w.heap.size, 1, none⟩) (by simp) (.slice (some ⟨g, 0, none⟩) 18 c1))
  have HK1 := Lib.hid (hk1.set_ 1 (.slice (some ⟨g, 0, none⟩) 18 c1))
  have HR1 := Lib.hid (hr1.far_set 1 (.slice (some ⟨g, 0, none⟩) 18 c1) (show w.heap.size + 1 ≠ w.heap.size by omega))
  have hsz1 := hr1.lt
  clear ho1 hk1 hr1 hb1
  go_wp2_with (at_builtin; refine app_words rfl _ _ rfl w1.heap.size (.slice none 0 0) 0 [] B h c2 ps (World.ownsRow_nil _ _ _ _) rfl (HP.out.below HB1.out) rfl (by omega) (by simp) ?_)
  intro v2 w2 ho2 hb2
  obtain ⟨A2, d2, rfl, hW2⟩ := own_words ho2
  have hpl := hW2.len
  clear hW2
  have hss : (w1.setCell ⟨w.heap.size, 1, none⟩ (.slice (some ⟨g, 0, none⟩) 18 c1)).heap.size = w1.heap.size := by simp
  try simp only [Nat.zero_add, List.nil_append] at ho2
  have hsb : w.heap.size + 2 ≤ w1.heap.size := by omega
  have hk2 := HK1.out.below hb2 (by omega)
  have hr2 := HR1.out.below hb2 (by omega)
  simp only [List.set_cons_succ, List.set_cons_zero] at hk2
  clear k0 k1 k2 f1
  have f0 := hk2.free 0
  have f1 := hk2.free 1
  have f2 := hk2.free 2
  have g0 := hr2.free 0
  have g1 := hr2.free 1
  have g2 := hr2.free 2
  have k0 := hk2.cell 0
  have k1 := hk2.cell 1
  have k2 := hk2.cell 2
  have r0 := hr2.cell 0
  have r1 := hr2.cell 1
  have r2 := hr2.cell 2
  simp only [List.getElem?_cons_succ, List.getElem?_cons_zero] at k0 k1 k2 r0 r1 r2
  have HO1b := Lib.hid (owns_below HO1.out (by rw [hss]; exact hb2))
  have HO2 := Lib.hid ho2
  have HB2 := Lib.hid (HB1.out.trans (hb2.mono (by omega)))
  have HKB := Lib.hid (hk2.set_ 2 (.slice A2 h d2))
  have HRB := Lib.hid (hr2.far_set 2 (.slice A2 h d2) (show w.heap.size + 1 ≠ w.heap.size by omega))
  have hw2s : w1.heap.size ≤ w2.heap.size := by have := hb2.size; simpa using this
  clear ho2 hb2 hk2 hr2 hss HK1 HR1 HK0 HR0 HB0 HB1 HO1 HA HP
  have HO1c := Lib.hid (ownsRow_setCell_below HO1b.out (a := ⟨w.heap.size, 2, none⟩) (by simp) (.slice A2 h d2))
  have HO2c := Lib.hid (ownsRow_setCell_below HO2.out (a := ⟨w.heap.size, 2, none⟩) (show w.heap.size < w1.heap.size by omega) (.slice A2 h d2))
  have HB3 := Lib.hid (HB2.out.setCell (p := ⟨w.heap.size, 2, none⟩) (Nat.le_refl _) (.slice A2 h d2))
  clear HO1b HO2 HB2
  have HO1d := Lib.hid (ownsRow_setCell_below HO1c.out (a := ⟨w.heap.size, 0, none⟩) (by simp) (.int .i64 (bits .xor .i64 l (wrap64 (2 ^ (K % 4))))))
  have HO2d := Lib.hid (ownsRow_setCell_below HO2c.out (a := ⟨w.heap.size, 0, none⟩) (show w.heap.size < w1.heap.size by omega) (.int .i64 (bits .xor .i64 l (wrap64 (2 ^ (K % 4))))))
  have HB4 := Lib.hid (HB3.out.setCell (p := ⟨w.heap.size, 0, none⟩) (Nat.le_refl _) (.int .i64 (bits .xor .i64 l (wrap64 (2 ^ (K % 4))))))
  go_wp2
  have hf : ∀ (W : World) (base : Nat) (v : Value) (m : Nat) (xs : List Value), W.ownsRow base 22 1 v m xs → w.heap.size + 1 < base → (((W.setCell ⟨w.heap.size + 1, 0, none⟩ (.int .i64 (bits .xor .i64 l (wrap64 (2 ^ (K % 4)))))).setCell ⟨w.heap.size + 1, 1, none⟩ (.slice (some ⟨g, 0, none⟩) 18 c1)).setCell ⟨w.heap.size + 1, 2, none⟩ (.slice A2 h d2)).ownsRow base 22 1 v m xs := fun W base v m xs h hb =>
    ownsRow_setCell_below (ownsRow_setCell_below (ownsRow_setCell_below h (a := ⟨w.heap.size + 1, 0, none⟩) hb _) (a := ⟨w.heap.size + 1, 1, none⟩) hb _) (a := ⟨w.heap.size + 1, 2, none⟩) hb _
  obtain ⟨A', c', e', hWA⟩ := own_words (hf _ _ _ _ _ HO1d.out (by omega))
  cases e'
  obtain ⟨B', c', e', hWB⟩ := own_words (hf _ _ _ _ _ HO2d.out (by omega))
  cases e'
  refine bodyPost_ret (v := .agg #[.int .i64 (bits .xor .i64 l (wrap64 (2 ^ (K % 4)))), .slice (some ⟨g, 0, none⟩) 18 c1, .slice A2 h d2]) (by simp [results, Try.results16, go_sem, r0, r1, r2]) rfl ⟨(bits .xor .i64 l (wrap64 (2 ^ (K % 4)))), (some ⟨g, 0, none⟩), A2, 18, c1, h, d2, _, _, rfl, hWA, hWB, by omega, by omega, ?_⟩
  exact ((((HB4.out).setCell (p := ⟨w.heap.size + 1, 0, none⟩) (by simp) _).setCell (p := ⟨w.heap.size + 1, 1, none⟩) (by simp) _).setCell (p := ⟨w.heap.size + 1, 2, none⟩) (by simp) _)

set_option maxHeartbeats 1000000 in
theorem spoil3 (l n : Int) (A B : Option Addr) (h c c2 : Nat) (cs ps : List (BitVec 64)) (w : World) (hA : Ws w A 18 cs) (hB : Ws w B h ps) (hh : h ≤ 4) (hj : n % 8 = 3) :
    Calls Try.prog 16 #[.agg #[.int .i64 l, .slice A 18 c, .slice B h c2], .int .i64 n] w (Spo w) := by
  have HA := Lib.hid hA
  have HP := Lib.hid hB
  obtain ⟨K, hK⟩ := Int.eq_ofNat_of_zero_le (Int.emod_nonneg (n / 8) (b := 65536) (by decide))
  have hK2 : K < 65536 := by omega
  clear hA hB
  have HB0 := Lib.hid (((Below.refl w.heap.size w).alloc (Nat.le_refl _) (.cells #[.int .i64 l, .slice A 18 c, .slice B h c2] 32)).alloc (by simp) (.cells #[.int .i64 0, .slice none 0 0, .slice none 0 0] 32))
  have HK0 := Lib.hid ((Cs.new w 32 [.int .i64 l, .slice A 18 c, .slice B h c2]).grow (.cells #[.int .i64 0, .slice none 0 0, .slice none 0 0] 32))
  have HR0 := Lib.hid (Cs.at (w := w.alloc (.cells #[.int .i64 l, .slice A 18 c, .slice B h c2] 32)) (n := w.heap.size + 1) (by simp) 32 [.int .i64 0, .slice none 0 0, .slice none 0 0])
  go_enter Try.func16, Try.ntmps16
  go_wp2_with (at_builtin; refine app_words rfl _ _ rfl (w.heap.size + 2) (.slice none 0 0) 0 [] A 18 c cs (World.ownsRow_nil _ _ _ _) rfl (HA.out.below HB0.out) rfl (by omega) (by simp) ?_)
  intro v1 w1 ho1 hb1
  obtain ⟨A1, c1, rfl, hW1⟩ := own_words ho1
  have hcl := hW1.len
  obtain ⟨g, rfl, hgb, hgc, hgl⟩ := own_cap ho1 (by decide)
  clear hW1
  have hk1 := HK0.out.below hb1 (by omega)
  have hr1 := HR0.out.below hb1 (by omega)
  have f1 := hk1.free 1
  have k0 := hk1.cell 0
  have k1 := hk1.cell 1
  have k2 := hk1.cell 2
  simp only [List.getElem?_cons_succ, List.getElem?_cons_zero] at k0 k1 k2
  have HB1 := Lib.hid ((HB0.out.trans (hb1.mono (by omega))).setCell (p := ⟨w.heap.size, 1, none⟩) (Nat.le_refl _) (.slice (some ⟨g, 0, none⟩) 18 c1))
  have HO1 := Lib.hid (ownsRow_setCell_below ho1 (a := ⟨w.heap.size, 1, none⟩) (by simp) (.slice (some ⟨g, 0, none⟩) 18 c1))
  have HK1 := Lib.hid (hk1.set_ 1 (.slice (some ⟨g, 0, none⟩) 18 c1))
  have HR1 := Lib.hid (hr1.far_set 1 (.slice (some ⟨g, 0, none⟩) 18 c1) (show w.heap.size + 1 ≠ w.heap.size by omega))
  have hsz1 := hr1.lt
  clear ho1 hk1 hr1 hb1
  go_wp2_with (at_builtin; refine app_words rfl _ _ rfl w1.heap.size (.slice none 0 0) 0 [] B h c2 ps (World.ownsRow_nil _ _ _ _) rfl (HP.out.below HB1.out) rfl (by omega) (by simp) ?_)
  intro v2 w2 ho2 hb2
  obtain ⟨A2, d2, rfl, hW2⟩ := own_words ho2
  have hpl := hW2.len
  clear hW2
  have hss : (w1.setCell ⟨w.heap.size, 1, none⟩ (.slice (some ⟨g, 0, none⟩) 18 c1)).heap.size = w1.heap.size := by simp
  try simp only [Nat.zero_add, List.nil_append] at ho2
  have hsb : w.heap.size + 2 ≤ w1.heap.size := by omega
  have hk2 := HK1.out.below hb2 (by omega)
  have hr2 := HR1.out.below hb2 (by omega)
  simp only [List.set_cons_succ, List.set_cons_zero] at hk2
  clear k0 k1 k2 f1
  have f0 := hk2.free 0
  have f1 := hk2.free 1
  have f2 := hk2.free 2
  have g0 := hr2.free 0
  have g1 := hr2.free 1
  have g2 := hr2.free 2
  have k0 := hk2.cell 0
  have k1 := hk2.cell 1
  have k2 := hk2.cell 2
  have r0 := hr2.cell 0
  have r1 := hr2.cell 1
  have r2 := hr2.cell 2
  simp only [List.getElem?_cons_succ, List.getElem?_cons_zero] at k0 k1 k2 r0 r1 r2
  have HO1b := Lib.hid (owns_below HO1.out (by rw [hss]; exact hb2))
  have HO2 := Lib.hid ho2
  have HB2 := Lib.hid (HB1.out.trans (hb2.mono (by omega)))
  have HKB := Lib.hid (hk2.set_ 2 (.slice A2 h d2))
  have HRB := Lib.hid (hr2.far_set 2 (.slice A2 h d2) (show w.heap.size + 1 ≠ w.heap.size by omega))
  have hw2s : w1.heap.size ≤ w2.heap.size := by have := hb2.size; simpa using this
  clear ho2 hb2 hk2 hr2 hss HK1 HR1 HK0 HR0 HB0 HB1 HO1 HA HP
  have HO1c := Lib.hid (ownsRow_setCell_below HO1b.out (a := ⟨w.heap.size, 2, none⟩) (by simp) (.slice A2 h d2))
  have HO2c := Lib.hid (ownsRow_setCell_below HO2.out (a := ⟨w.heap.size, 2, none⟩) (show w.heap.size < w1.heap.size by omega) (.slice A2 h d2))
  have HB3 := Lib.hid (HB2.out.setCell (p := ⟨w.heap.size, 2, none⟩) (Nat.le_refl _) (.slice A2 h d2))
  clear HO1b HO2 HB2
  have hkc : (K : Int) % 18 ≤ (c1 : Int) := by omega
  have HO1d := Lib.hid (ownsRow_setCell_below HO1c.out (a := ⟨w.heap.size, 1, none⟩) (by simp) (.slice (some ⟨g, 0, none⟩) (K % 18) c1))
  have HO2d := Lib.hid (ownsRow_setCell_below HO2c.out (a := ⟨w.heap.size, 1, none⟩) (show w.heap.size < w1.heap.size by omega) (.slice (some ⟨g, 0, none⟩) (K % 18) c1))
  have HB4 := Lib.hid (HB3.out.setCell (p := ⟨w.heap.size, 1, none⟩) (Nat.le_refl _) (.slice (some ⟨g, 0, none⟩) (K % 18) c1))
  go_wp2
  have hf : ∀ (W : World) (base : Nat) (v : Value) (m : Nat) (xs : List Value), W.ownsRow base 22 1 v m xs → w.heap.size + 1 < base → (((W.setCell ⟨w.heap.size + 1, 0, none⟩ (.int .i64 l)).setCell ⟨w.heap.size + 1, 1, none⟩ (.slice (some ⟨g, 0, none⟩) (K % 18) c1)).setCell ⟨w.heap.size + 1, 2, none⟩ (.slice A2 h d2)).ownsRow base 22 1 v m xs := fun W base v m xs h hb =>
    ownsRow_setCell_below (ownsRow_setCell_below (ownsRow_setCell_below h (a := ⟨w.heap.size + 1, 0, none⟩) hb _) (a := ⟨w.heap.size + 1, 1, none⟩) hb _) (a := ⟨w.heap.size + 1, 2, none⟩) hb _
  obtain ⟨A', c', e', hWA⟩ := own_words (hf _ _ _ _ _ HO1d.out (by omega))
  cases e'
  obtain ⟨B', c', e', hWB⟩ := own_words (hf _ _ _ _ _ HO2d.out (by omega))
  cases e'
  refine bodyPost_ret (v := .agg #[.int .i64 l, .slice (some ⟨g, 0, none⟩) (K % 18) c1, .slice A2 h d2]) (by simp [results, Try.results16, go_sem, r0, r1, r2]) rfl ⟨l, (some ⟨g, 0, none⟩), A2, (K % 18), c1, h, d2, _, _, rfl, (hWA.take (by omega)), hWB, by omega, by omega, ?_⟩
  exact ((((HB4.out).setCell (p := ⟨w.heap.size + 1, 0, none⟩) (by simp) _).setCell (p := ⟨w.heap.size + 1, 1, none⟩) (by simp) _).setCell (p := ⟨w.heap.size + 1, 2, none⟩) (by simp) _)

set_option maxHeartbeats 1000000 in
theorem spoil2 (l n : Int) (A B : Option Addr) (h c c2 : Nat) (cs ps : List (BitVec 64)) (w : World) (hA : Ws w A 18 cs) (hB : Ws w B h ps) (hh : h ≤ 4) (hj : n % 8 = 2) :
    Calls Try.prog 16 #[.agg #[.int .i64 l, .slice A 18 c, .slice B h c2], .int .i64 n] w (Spo w) := by
  have HA := Lib.hid hA
  have HP := Lib.hid hB
  obtain ⟨K, hK⟩ := Int.eq_ofNat_of_zero_le (Int.emod_nonneg (n / 8) (b := 65536) (by decide))
  have hK2 : K < 65536 := by omega
  clear hA hB
  have HB0 := Lib.hid (((Below.refl w.heap.size w).alloc (Nat.le_refl _) (.cells #[.int .i64 l, .slice A 18 c, .slice B h c2] 32)).alloc (by simp) (.cells #[.int .i64 0, .slice none 0 0, .slice none 0 0] 32))
  have HK0 := Lib.hid ((Cs.new w 32 [.int .i64 l, .slice A 18 c, .slice B h c2]).grow (.cells #[.int .i64 0, .slice none 0 0, .slice none 0 0] 32))
  have HR0 := Lib.hid (Cs.at (w := w.alloc (.cells #[.int .i64 l, .slice A 18 c, .slice B h c2] 32)) (n := w.heap.size + 1) (by simp) 32 [.int .i64 0, .slice none 0 0, .slice none 0 0])
  go_enter Try.func16, Try.ntmps16
  go_wp2_with (at_builtin; refine app_words rfl _ _ rfl (w.heap.size + 2) (.slice none 0 0) 0 [] A 18 c cs (World.ownsRow_nil _ _ _ _) rfl (HA.out.below HB0.out) rfl (by omega) (by simp) ?_)
  intro v1 w1 ho1 hb1
  obtain ⟨A1, c1, rfl, hW1⟩ := own_words ho1
  have hcl := hW1.len
  obtain ⟨g, rfl, hgb, hgc, hgl⟩ := own_cap ho1 (by decide)
  clear hW1
  have hk1 := HK0.out.below hb1 (by omega)
  have hr1 := HR0.out.below hb1 (by omega)
  have f1 := hk1.free 1
  have k0 := hk1.cell 0
  have k1 := hk1.cell 1
  have k2 := hk1.cell 2
  simp only [List.getElem?_cons_succ, List.getElem?_cons_zero] at k0 k1 k2
  have HB1 := Lib.hid ((HB0.out.trans (hb1.mono (by omega))).setCell (p := ⟨w.heap.size, 1, none⟩) (Nat.le_refl _) (.slice (some ⟨g, 0, none⟩) 18 c1))
  have HO1 := Lib.hid (ownsRow_setCell_below ho1 (a := ⟨w.heap.size, 1, none⟩) (by simp) (.slice (some ⟨g, 0, none⟩) 18 c1))
  have HK1 := Lib.hid (hk1.set_ 1 (.slice (some ⟨g, 0, none⟩) 18 c1))
  have HR1 := Lib.hid (hr1.far_set 1 (.slice (some ⟨g, 0, none⟩) 18 c1) (show w.heap.size + 1 ≠ w.heap.size by omega))
  have hsz1 := hr1.lt
  clear ho1 hk1 hr1 hb1
  go_wp2_with (at_builtin; refine app_words rfl _ _ rfl w1.heap.size (.slice none 0 0) 0 [] B h c2 ps (World.ownsRow_nil _ _ _ _) rfl (HP.out.below HB1.out) rfl (by omega) (by simp) ?_)
  intro v2 w2 ho2 hb2
  obtain ⟨A2, d2, rfl, hW2⟩ := own_words ho2
  have hpl := hW2.len
  clear hW2
  have hss : (w1.setCell ⟨w.heap.size, 1, none⟩ (.slice (some ⟨g, 0, none⟩) 18 c1)).heap.size = w1.heap.size := by simp
  try simp only [Nat.zero_add, List.nil_append] at ho2
  have hsb : w.heap.size + 2 ≤ w1.heap.size := by omega
  have hk2 := HK1.out.below hb2 (by omega)
  have hr2 := HR1.out.below hb2 (by omega)
  simp only [List.set_cons_succ, List.set_cons_zero] at hk2
  clear k0 k1 k2 f1
  have f0 := hk2.free 0
  have f1 := hk2.free 1
  have f2 := hk2.free 2
  have g0 := hr2.free 0
  have g1 := hr2.free 1
  have g2 := hr2.free 2
  have k0 := hk2.cell 0
  have k1 := hk2.cell 1
  have k2 := hk2.cell 2
  have r0 := hr2.cell 0
  have r1 := hr2.cell 1
  have r2 := hr2.cell 2
  simp only [List.getElem?_cons_succ, List.getElem?_cons_zero] at k0 k1 k2 r0 r1 r2
  have HO1b := Lib.hid (owns_below HO1.out (by rw [hss]; exact hb2))
  have HO2 := Lib.hid ho2
  have HB2 := Lib.hid (HB1.out.trans (hb2.mono (by omega)))
  have HKB := Lib.hid (hk2.set_ 2 (.slice A2 h d2))
  have HRB := Lib.hid (hr2.far_set 2 (.slice A2 h d2) (show w.heap.size + 1 ≠ w.heap.size by omega))
  have hw2s : w1.heap.size ≤ w2.heap.size := by have := hb2.size; simpa using this
  clear ho2 hb2 hk2 hr2 hss HK1 HR1 HK0 HR0 HB0 HB1 HO1 HA HP
  have HO1c := Lib.hid (ownsRow_setCell_below HO1b.out (a := ⟨w.heap.size, 2, none⟩) (by simp) (.slice A2 h d2))
  have HO2c := Lib.hid (ownsRow_setCell_below HO2.out (a := ⟨w.heap.size, 2, none⟩) (show w.heap.size < w1.heap.size by omega) (.slice A2 h d2))
  have HB3 := Lib.hid (HB2.out.setCell (p := ⟨w.heap.size, 2, none⟩) (Nat.le_refl _) (.slice A2 h d2))
  clear HO1b HO2 HB2
  obtain ⟨i, hi⟩ : ∃ i : Nat, K % 18 = i := ⟨_, rfl⟩
  have hiI : (K : Int) % (18 : Int) = (i : Int) := by rw [← hi]; simp
  have hin : i < 18 := by rw [← hi]; exact Nat.mod_lt _ (by omega)
  have hinI : (i : Int) < (18 : Int) := by omega
  clear hi
  have hcell := HO1c.out.cellAt i (by omega)
  have hfr := HO1c.out.frozenAt i
  rw [wv_at cs i (by omega)] at hcell
  generalize cs.getD i 0 = x at *
  have hone : IntKind.u64.wrap (val x + 1) = val (x + 1#64) := val_add x 1#64
  obtain ⟨hO5, hB5⟩ := own_set HO1c.out hgb i (x + 1#64)
  have hn0 : ¬ g = w.heap.size := by omega
  have hn1 : ¬ g = w.heap.size + 1 := by omega
  have hn2 : ¬ w.heap.size = g := by omega
  have hn3 : ¬ w.heap.size + 1 = g := by omega
  go_wp2
  go_region
  have ho1d : (((w2.setCell ⟨w.heap.size, 2, none⟩ (.slice A2 h d2)).setCell ⟨g, i, none⟩ (.int .u64 (val (x + 1#64)))).drew).ownsRow (w.heap.size + 2) 22 1 (.slice (some ⟨g, 0, none⟩) 18 c1) 18 (wv (cs.set i (x + 1#64))) := hO5
  have ho2d : (((w2.setCell ⟨w.heap.size, 2, none⟩ (.slice A2 h d2)).setCell ⟨g, i, none⟩ (.int .u64 (val (x + 1#64)))).drew).ownsRow w1.heap.size 22 1 (.slice A2 h d2) h (wv ps) := ownsRow_setCell_below HO2c.out (a := ⟨g, i, none⟩) hgl (.int .u64 (val (x + 1#64)))
  have hb4 : Below w.heap.size w (((w2.setCell ⟨w.heap.size, 2, none⟩ (.slice A2 h d2)).setCell ⟨g, i, none⟩ (.int .u64 (val (x + 1#64)))).drew) := (HB3.out.trans (hB5.mono (by omega))).drew
  have hkd : Cs (((w2.setCell ⟨w.heap.size, 2, none⟩ (.slice A2 h d2)).setCell ⟨g, i, none⟩ (.int .u64 (val (x + 1#64)))).drew) w.heap.size 32 _ := (HKB.out.far_set i (.int .u64 (val (x + 1#64))) (show w.heap.size ≠ g by omega)).drew
  have hrd : Cs (((w2.setCell ⟨w.heap.size, 2, none⟩ (.slice A2 h d2)).setCell ⟨g, i, none⟩ (.int .u64 (val (x + 1#64)))).drew) (w.heap.size + 1) 32 _ := (HRB.out.far_set i (.int .u64 (val (x + 1#64))) (show w.heap.size + 1 ≠ g by omega)).drew
  clear hO5 hB5 HO1c HO2c HB3 HKB HRB
  clear k0 k1 k2 r0 r1 r2 f0 f1 f2 g0 g1 g2 hcell hfr hone
  generalize ((w2.setCell ⟨w.heap.size, 2, none⟩ (.slice A2 h d2)).setCell ⟨g, i, none⟩ (.int .u64 (val (x + 1#64)))).drew = W at *
  have f0 := hkd.free 0
  have f1 := hkd.free 1
  have f2 := hkd.free 2
  have g0 := hrd.free 0
  have g1 := hrd.free 1
  have g2 := hrd.free 2
  have k0 := hkd.cell 0
  have k1 := hkd.cell 1
  have k2 := hkd.cell 2
  have r0 := hrd.cell 0
  have r1 := hrd.cell 1
  have r2 := hrd.cell 2
  simp only [List.set_cons_succ, List.set_cons_zero, List.getElem?_cons_succ, List.getElem?_cons_zero] at k0 k1 k2 r0 r1 r2
  clear hkd hrd
  go_wp2
  have HO1d := Lib.hid ho1d
  have HO2d := Lib.hid ho2d
  have HB4 := Lib.hid hb4
  have hf : ∀ (W : World) (base : Nat) (v : Value) (m : Nat) (xs : List Value), W.ownsRow base 22 1 v m xs → w.heap.size + 1 < base → (((W.setCell ⟨w.heap.size + 1, 0, none⟩ (.int .i64 l)).setCell ⟨w.heap.size + 1, 1, none⟩ (.slice (some ⟨g, 0, none⟩) 18 c1)).setCell ⟨w.heap.size + 1, 2, none⟩ (.slice A2 h d2)).ownsRow base 22 1 v m xs := fun W base v m xs h hb =>
    ownsRow_setCell_below (ownsRow_setCell_below (ownsRow_setCell_below h (a := ⟨w.heap.size + 1, 0, none⟩) hb _) (a := ⟨w.heap.size + 1, 1, none⟩) hb _) (a := ⟨w.heap.size + 1, 2, none⟩) hb _
  obtain ⟨A', c', e', hWA⟩ := own_words (hf _ _ _ _ _ HO1d.out (by omega))
  cases e'
  obtain ⟨B', c', e', hWB⟩ := own_words (hf _ _ _ _ _ HO2d.out (by omega))
  cases e'
  refine bodyPost_ret (v := .agg #[.int .i64 l, .slice (some ⟨g, 0, none⟩) 18 c1, .slice A2 h d2]) (by simp [results, Try.results16, go_sem, r0, r1, r2]) rfl ⟨l, (some ⟨g, 0, none⟩), A2, 18, c1, h, d2, _, _, rfl, hWA, hWB, by omega, by omega, ?_⟩
  exact ((((HB4.out).setCell (p := ⟨w.heap.size + 1, 0, none⟩) (by simp) _).setCell (p := ⟨w.heap.size + 1, 1, none⟩) (by simp) _).setCell (p := ⟨w.heap.size + 1, 2, none⟩) (by simp) _)

set_option maxHeartbeats 1000000 in
theorem spoil5 (l n : Int) (A B : Option Addr) (h c c2 : Nat) (cs ps : List (BitVec 64)) (w : World) (hA : Ws w A 18 cs) (hB : Ws w B h ps) (hh : h ≤ 4) (hj : n % 8 = 5) :
    Calls Try.prog 16 #[.agg #[.int .i64 l, .slice A 18 c, .slice B h c2], .int .i64 n] w (Spo w) := by
  have HA := Lib.hid hA
  have HP := Lib.hid hB
  obtain ⟨K, hK⟩ := Int.eq_ofNat_of_zero_le (Int.emod_nonneg (n / 8) (b := 65536) (by decide))
  have hK2 : K < 65536 := by omega
  clear hA hB
  have HB0 := Lib.hid (((Below.refl w.heap.size w).alloc (Nat.le_refl _) (.cells #[.int .i64 l, .slice A 18 c, .slice B h c2] 32)).alloc (by simp) (.cells #[.int .i64 0, .slice none 0 0, .slice none 0 0] 32))
  have HK0 := Lib.hid ((Cs.new w 32 [.int .i64 l, .slice A 18 c, .slice B h c2]).grow (.cells #[.int .i64 0, .slice none 0 0, .slice none 0 0] 32))
  have HR0 := Lib.hid (Cs.at (w := w.alloc (.cells #[.int .i64 l, .slice A 18 c, .slice B h c2] 32)) (n := w.heap.size + 1) (by simp) 32 [.int .i64 0, .slice none 0 0, .slice none 0 0])
  go_enter Try.func16, Try.ntmps16
  go_wp2_with (at_builtin; refine app_words rfl _ _ rfl (w.heap.size + 2) (.slice none 0 0) 0 [] A 18 c cs (World.ownsRow_nil _ _ _ _) rfl (HA.out.below HB0.out) rfl (by omega) (by simp) ?_)
  intro v1 w1 ho1 hb1
  obtain ⟨A1, c1, rfl, hW1⟩ := own_words ho1
  have hcl := hW1.len
  obtain ⟨g, rfl, hgb, hgc, hgl⟩ := own_cap ho1 (by decide)
  clear hW1
  have hk1 := HK0.out.below hb1 (by omega)
  have hr1 := HR0.out.below hb1 (by omega)
  have f1 := hk1.free 1
  have k0 := hk1.cell 0
  have k1 := hk1.cell 1
  have k2 := hk1.cell 2
  simp only [List.getElem?_cons_succ, List.getElem?_cons_zero] at k0 k1 k2
  have HB1 := Lib.hid ((HB0.out.trans (hb1.mono (by omega))).setCell (p := ⟨w.heap.size, 1, none⟩) (Nat.le_refl _) (.slice (some ⟨g, 0, none⟩) 18 c1))
  have HO1 := Lib.hid (ownsRow_setCell_below ho1 (a := ⟨w.heap.size, 1, none⟩) (by simp) (.slice (some ⟨g, 0, none⟩) 18 c1))
  have HK1 := Lib.hid (hk1.set_ 1 (.slice (some ⟨g, 0, none⟩) 18 c1))
  have HR1 := Lib.hid (hr1.far_set 1 (.slice (some ⟨g, 0, none⟩) 18 c1) (show w.heap.size + 1 ≠ w.heap.size by omega))
  have hsz1 := hr1.lt
  clear ho1 hk1 hr1 hb1
  go_wp2_with (at_builtin; refine app_words rfl _ _ rfl w1.heap.size (.slice none 0 0) 0 [] B h c2 ps (World.ownsRow_nil _ _ _ _) rfl (HP.out.below HB1.out) rfl (by omega) (by simp) ?_)
  intro v2 w2 ho2 hb2
  obtain ⟨A2, d2, rfl, hW2⟩ := own_words ho2
  have hpl := hW2.len
  clear hW2
  have hss : (w1.setCell ⟨w.heap.size, 1, none⟩ (.slice (some ⟨g, 0, none⟩) 18 c1)).heap.size = w1.heap.size := by simp
  try simp only [Nat.zero_add, List.nil_append] at ho2
  have hsb : w.heap.size + 2 ≤ w1.heap.size := by omega
  have hk2 := HK1.out.below hb2 (by omega)
  have hr2 := HR1.out.below hb2 (by omega)
  simp only [List.set_cons_succ, List.set_cons_zero] at hk2
  clear k0 k1 k2 f1
  have f0 := hk2.free 0
  have f1 := hk2.free 1
  have f2 := hk2.free 2
  have g0 := hr2.free 0
  have g1 := hr2.free 1
  have g2 := hr2.free 2
  have k0 := hk2.cell 0
  have k1 := hk2.cell 1
  have k2 := hk2.cell 2
  have r0 := hr2.cell 0
  have r1 := hr2.cell 1
  have r2 := hr2.cell 2
  simp only [List.getElem?_cons_succ, List.getElem?_cons_zero] at k0 k1 k2 r0 r1 r2
  have HO1b := Lib.hid (owns_below HO1.out (by rw [hss]; exact hb2))
  have HO2 := Lib.hid ho2
  have HB2 := Lib.hid (HB1.out.trans (hb2.mono (by omega)))
  have HKB := Lib.hid (hk2.set_ 2 (.slice A2 h d2))
  have HRB := Lib.hid (hr2.far_set 2 (.slice A2 h d2) (show w.heap.size + 1 ≠ w.heap.size by omega))
  have hw2s : w1.heap.size ≤ w2.heap.size := by have := hb2.size; simpa using this
  clear ho2 hb2 hk2 hr2 hss HK1 HR1 HK0 HR0 HB0 HB1 HO1 HA HP
  by_cases hh0 : h = 0
  · have hz : ¬ (0 : Int) < (h : Int) := by omega
    subst hh0
    have HO1c := Lib.hid (ownsRow_setCell_below HO1b.out (a := ⟨w.heap.size, 2, none⟩) (by simp) (.slice A2 0 d2))
    have HO2c := Lib.hid (ownsRow_setCell_below HO2.out (a := ⟨w.heap.size, 2, none⟩) (show w.heap.size < w1.heap.size by omega) (.slice A2 0 d2))
    have HB3 := Lib.hid (HB2.out.setCell (p := ⟨w.heap.size, 2, none⟩) (Nat.le_refl _) (.slice A2 0 d2))
    clear HO1b HO2 HB2
    go_wp2
    have hf : ∀ (W : World) (base : Nat) (v : Value) (m : Nat) (xs : List Value), W.ownsRow base 22 1 v m xs → w.heap.size + 1 < base → (((W.setCell ⟨w.heap.size + 1, 0, none⟩ (.int .i64 l)).setCell ⟨w.heap.size + 1, 1, none⟩ (.slice (some ⟨g, 0, none⟩) 18 c1)).setCell ⟨w.heap.size + 1, 2, none⟩ (.slice A2 0 d2)).ownsRow base 22 1 v m xs := fun W base v m xs h hb =>
      ownsRow_setCell_below (ownsRow_setCell_below (ownsRow_setCell_below h (a := ⟨w.heap.size + 1, 0, none⟩) hb _) (a := ⟨w.heap.size + 1, 1, none⟩) hb _) (a := ⟨w.heap.size + 1, 2, none⟩) hb _
    obtain ⟨A', c', e', hWA⟩ := own_words (hf _ _ _ _ _ HO1c.out (by omega))
    cases e'
    obtain ⟨B', c', e', hWB⟩ := own_words (hf _ _ _ _ _ HO2c.out (by omega))
    cases e'
    refine bodyPost_ret (v := .agg #[.int .i64 l, .slice (some ⟨g, 0, none⟩) 18 c1, .slice A2 0 d2]) (by simp [results, Try.results16, go_sem, r0, r1, r2]) rfl ⟨l, (some ⟨g, 0, none⟩), A2, 18, c1, 0, d2, _, _, rfl, hWA, hWB, by omega, by omega, ?_⟩
    exact ((((HB3.out).setCell (p := ⟨w.heap.size + 1, 0, none⟩) (by simp) _).setCell (p := ⟨w.heap.size + 1, 1, none⟩) (by simp) _).setCell (p := ⟨w.heap.size + 1, 2, none⟩) (by simp) _)
  have hz : (0 : Int) < (h : Int) := by omega
  have hz1 : ¬ (h : Int) = 0 := by omega
  obtain ⟨q2, rfl, hgb2, hgc2, hgl2⟩ := own_cap HO2.out (by omega)
  have HO1c := Lib.hid (ownsRow_setCell_below HO1b.out (a := ⟨w.heap.size, 2, none⟩) (by simp) (.slice (some ⟨q2, 0, none⟩) h d2))
  have HO2c := Lib.hid (ownsRow_setCell_below HO2.out (a := ⟨w.heap.size, 2, none⟩) (show w.heap.size < w1.heap.size by omega) (.slice (some ⟨q2, 0, none⟩) h d2))
  have HB3 := Lib.hid (HB2.out.setCell (p := ⟨w.heap.size, 2, none⟩) (Nat.le_refl _) (.slice (some ⟨q2, 0, none⟩) h d2))
  clear HO1b HO2 HB2
  obtain ⟨i, hi⟩ : ∃ i : Nat, K % h = i := ⟨_, rfl⟩
  have hiI : (K : Int) % (h : Int) = (i : Int) := by rw [← hi]; simp
  have hin : i < h := by rw [← hi]; exact Nat.mod_lt _ (by omega)
  have hinI : (i : Int) < (h : Int) := by omega
  clear hi
  have hcell := HO2c.out.cellAt i (by omega)
  have hfr := HO2c.out.frozenAt i
  rw [wv_at ps i (by omega)] at hcell
  generalize ps.getD i 0 = x at *
  have hone : IntKind.u64.wrap (val x + 1) = val (x + 1#64) := val_add x 1#64
  obtain ⟨hO5, hB5⟩ := own_set HO2c.out hgb2 i (x + 1#64)
  have hn0 : ¬ q2 = w.heap.size := by omega
  have hn1 : ¬ q2 = w.heap.size + 1 := by omega
  have hn2 : ¬ w.heap.size = q2 := by omega
  have hn3 : ¬ w.heap.size + 1 = q2 := by omega
  go_wp2
  go_region
  have ho1d : (((w2.setCell ⟨w.heap.size, 2, none⟩ (.slice (some ⟨q2, 0, none⟩) h d2)).setCell ⟨q2, i, none⟩ (.int .u64 (val (x + 1#64)))).drew).ownsRow (w.heap.size + 2) 22 1 (.slice (some ⟨g, 0, none⟩) 18 c1) 18 (wv cs) := own_far HO1c.out ((Below.refl w1.heap.size _).setCell (p := ⟨q2, i, none⟩) hgb2 (.int .u64 (val (x + 1#64)))).drew hgl
  have ho2d : (((w2.setCell ⟨w.heap.size, 2, none⟩ (.slice (some ⟨q2, 0, none⟩) h d2)).setCell ⟨q2, i, none⟩ (.int .u64 (val (x + 1#64)))).drew).ownsRow w1.heap.size 22 1 (.slice (some ⟨q2, 0, none⟩) h d2) h (wv (ps.set i (x + 1#64))) := hO5
  have hb4 : Below w.heap.size w (((w2.setCell ⟨w.heap.size, 2, none⟩ (.slice (some ⟨q2, 0, none⟩) h d2)).setCell ⟨q2, i, none⟩ (.int .u64 (val (x + 1#64)))).drew) := (HB3.out.trans (hB5.mono (by omega))).drew
  have hkd : Cs (((w2.setCell ⟨w.heap.size, 2, none⟩ (.slice (some ⟨q2, 0, none⟩) h d2)).setCell ⟨q2, i, none⟩ (.int .u64 (val (x + 1#64)))).drew) w.heap.size 32 _ := (HKB.out.far_set i (.int .u64 (val (x + 1#64))) (show w.heap.size ≠ q2 by omega)).drew
  have hrd : Cs (((w2.setCell ⟨w.heap.size, 2, none⟩ (.slice (some ⟨q2, 0, none⟩) h d2)).setCell ⟨q2, i, none⟩ (.int .u64 (val (x + 1#64)))).drew) (w.heap.size + 1) 32 _ := (HRB.out.far_set i (.int .u64 (val (x + 1#64))) (show w.heap.size + 1 ≠ q2 by omega)).drew
  clear hO5 hB5 HO1c HO2c HB3 HKB HRB
  clear k0 k1 k2 r0 r1 r2 f0 f1 f2 g0 g1 g2 hcell hfr hone
  generalize ((w2.setCell ⟨w.heap.size, 2, none⟩ (.slice (some ⟨q2, 0, none⟩) h d2)).setCell ⟨q2, i, none⟩ (.int .u64 (val (x + 1#64)))).drew = W at *
  have f0 := hkd.free 0
  have f1 := hkd.free 1
  have f2 := hkd.free 2
  have g0 := hrd.free 0
  have g1 := hrd.free 1
  have g2 := hrd.free 2
  have k0 := hkd.cell 0
  have k1 := hkd.cell 1
  have k2 := hkd.cell 2
  have r0 := hrd.cell 0
  have r1 := hrd.cell 1
  have r2 := hrd.cell 2
  simp only [List.set_cons_succ, List.set_cons_zero, List.getElem?_cons_succ, List.getElem?_cons_zero] at k0 k1 k2 r0 r1 r2
  clear hkd hrd
  go_wp2
  have HO1d := Lib.hid ho1d
  have HO2d := Lib.hid ho2d
  have HB4 := Lib.hid hb4
  have hf : ∀ (W : World) (base : Nat) (v : Value) (m : Nat) (xs : List Value), W.ownsRow base 22 1 v m xs → w.heap.size + 1 < base → (((W.setCell ⟨w.heap.size + 1, 0, none⟩ (.int .i64 l)).setCell ⟨w.heap.size + 1, 1, none⟩ (.slice (some ⟨g, 0, none⟩) 18 c1)).setCell ⟨w.heap.size + 1, 2, none⟩ (.slice (some ⟨q2, 0, none⟩) h d2)).ownsRow base 22 1 v m xs := fun W base v m xs h hb =>
    ownsRow_setCell_below (ownsRow_setCell_below (ownsRow_setCell_below h (a := ⟨w.heap.size + 1, 0, none⟩) hb _) (a := ⟨w.heap.size + 1, 1, none⟩) hb _) (a := ⟨w.heap.size + 1, 2, none⟩) hb _
  obtain ⟨A', c', e', hWA⟩ := own_words (hf _ _ _ _ _ HO1d.out (by omega))
  cases e'
  obtain ⟨B', c', e', hWB⟩ := own_words (hf _ _ _ _ _ HO2d.out (by omega))
  cases e'
  refine bodyPost_ret (v := .agg #[.int .i64 l, .slice (some ⟨g, 0, none⟩) 18 c1, .slice (some ⟨q2, 0, none⟩) h d2]) (by simp [results, Try.results16, go_sem, r0, r1, r2]) rfl ⟨l, (some ⟨g, 0, none⟩), (some ⟨q2, 0, none⟩), 18, c1, h, d2, _, _, rfl, hWA, hWB, by omega, by omega, ?_⟩
  exact ((((HB4.out).setCell (p := ⟨w.heap.size + 1, 0, none⟩) (by simp) _).setCell (p := ⟨w.heap.size + 1, 1, none⟩) (by simp) _).setCell (p := ⟨w.heap.size + 1, 2, none⟩) (by simp) _)

set_option maxHeartbeats 1000000 in
theorem spoil4 (l n : Int) (A B : Option Addr) (h c c2 : Nat) (cs ps : List (BitVec 64)) (w : World) (hA : Ws w A 18 cs) (hB : Ws w B h ps) (hh : h ≤ 4) (hj : n % 8 = 4) :
    Calls Try.prog 16 #[.agg #[.int .i64 l, .slice A 18 c, .slice B h c2], .int .i64 n] w (Spo w) := by
  have HA := Lib.hid hA
  have HP := Lib.hid hB
  obtain ⟨K, hK⟩ := Int.eq_ofNat_of_zero_le (Int.emod_nonneg (n / 8) (b := 65536) (by decide))
  have hK2 : K < 65536 := by omega
  clear hA hB
  have HB0 := Lib.hid (((Below.refl w.heap.size w).alloc (Nat.le_refl _) (.cells #[.int .i64 l, .slice A 18 c, .slice B h c2] 32)).alloc (by simp) (.cells #[.int .i64 0, .slice none 0 0, .slice none 0 0] 32))
  have HK0 := Lib.hid ((Cs.new w 32 [.int .i64 l, .slice A 18 c, .slice B h c2]).grow (.cells #[.int .i64 0, .slice none 0 0, .slice none 0 0] 32))
  have HR0 := Lib.hid (Cs.at (w := w.alloc (.cells #[.int .i64 l, .slice A 18 c, .slice B h c2] 32)) (n := w.heap.size + 1) (by simp) 32 [.int .i64 0, .slice none 0 0, .slice none 0 0])
  go_enter Try.func16, Try.ntmps16
  go_wp2_with (at_builtin; refine app_words rfl _ _ rfl (w.heap.size + 2) (.slice none 0 0) 0 [] A 18 c cs (World.ownsRow_nil _ _ _ _) rfl (HA.out.below HB0.out) rfl (by omega) (by simp) ?_)
  intro v1 w1 ho1 hb1
  obtain ⟨A1, c1, rfl, hW1⟩ := own_words ho1
  have hcl := hW1.len
  obtain ⟨g, rfl, hgb, hgc, hgl⟩ := own_cap ho1 (by decide)
  clear hW1
  have hk1 := HK0.out.below hb1 (by omega)
  have hr1 := HR0.out.below hb1 (by omega)
  have f1 := hk1.free 1
  have k0 := hk1.cell 0
  have k1 := hk1.cell 1
  have k2 := hk1.cell 2
  simp only [List.getElem?_cons_succ, List.getElem?_cons_zero] at k0 k1 k2
  have HB1 := Lib.hid ((HB0.out.trans (hb1.mono (by omega))).setCell (p := ⟨w.heap.size, 1, none⟩) (Nat.le_refl _) (.slice (some ⟨g, 0, none⟩) 18 c1))
  have HO1 := Lib.hid (ownsRow_setCell_below ho1 (a := ⟨w.heap.size, 1, none⟩) (by simp) (.slice (some ⟨g, 0, none⟩) 18 c1))
  have HK1 := Lib.hid (hk1.set_ 1 (.slice (some ⟨g, 0, none⟩) 18 c1))
  have HR1 := Lib.hid (hr1.far_set 1 (.slice (some ⟨g, 0, none⟩) 18 c1) (show w.heap.size + 1 ≠ w.heap.size by omega))
  have hsz1 := hr1.lt
  clear ho1 hk1 hr1 hb1
  go_wp2_with (at_builtin; refine app_words rfl _ _ rfl w1.heap.size (.slice none 0 0) 0 [] B h c2 ps (World.ownsRow_nil _ _ _ _) rfl (HP.out.below HB1.out) rfl (by omega) (by simp) ?_)
  intro v2 w2 ho2 hb2
  obtain ⟨A2, d2, rfl, hW2⟩ := own_words ho2
  have hpl := hW2.len
  clear hW2
  have hss : (w1.setCell ⟨w.heap.size, 1, none⟩ (.slice (some ⟨g, 0, none⟩) 18 c1)).heap.size = w1.heap.size := by simp
  try simp only [Nat.zero_add, List.nil_append] at ho2
  have hsb : w.heap.size + 2 ≤ w1.heap.size := by omega
  have hk2 := HK1.out.below hb2 (by omega)
  have hr2 := HR1.out.below hb2 (by omega)
  simp only [List.set_cons_succ, List.set_cons_zero] at hk2
  clear k0 k1 k2 f1
  have f0 := hk2.free 0
  have f1 := hk2.free 1
  have f2 := hk2.free 2
  have g0 := hr2.free 0
  have g1 := hr2.free 1
  have g2 := hr2.free 2
  have k0 := hk2.cell 0
  have k1 := hk2.cell 1
  have k2 := hk2.cell 2
  have r0 := hr2.cell 0
  have r1 := hr2.cell 1
  have r2 := hr2.cell 2
  simp only [List.getElem?_cons_succ, List.getElem?_cons_zero] at k0 k1 k2 r0 r1 r2
  have HO1b := Lib.hid (owns_below HO1.out (by rw [hss]; exact hb2))
  have HO2 := Lib.hid ho2
  have HB2 := Lib.hid (HB1.out.trans (hb2.mono (by omega)))
  have HKB := Lib.hid (hk2.set_ 2 (.slice A2 h d2))
  have HRB := Lib.hid (hr2.far_set 2 (.slice A2 h d2) (show w.heap.size + 1 ≠ w.heap.size by omega))
  have hw2s : w1.heap.size ≤ w2.heap.size := by have := hb2.size; simpa using this
  clear ho2 hb2 hk2 hr2 hss HK1 HR1 HK0 HR0 HB0 HB1 HO1 HA HP
  have HO1c := Lib.hid (ownsRow_setCell_below HO1b.out (a := ⟨w.heap.size, 2, none⟩) (by simp) (.slice A2 h d2))
  have HO2c := Lib.hid (ownsRow_setCell_below HO2.out (a := ⟨w.heap.size, 2, none⟩) (show w.heap.size < w1.heap.size by omega) (.slice A2 h d2))
  have HB3 := Lib.hid (HB2.out.setCell (p := ⟨w.heap.size, 2, none⟩) (Nat.le_refl _) (.slice A2 h d2))
  clear HO1b HO2 HB2
  obtain ⟨x, hx⟩ : ∃ x : BitVec 64, (K : Int) = val x := ⟨_, val_of (z := (K : Int)) (by omega) (by omega)⟩
  have hwk : IntKind.u64.wrap (K : Int) = (K : Int) := by rw [IntKind.wrap_u64]; omega
  have hone := Ws.one (w2.setCell ⟨w.heap.size, 2, none⟩ (.slice A2 h d2)) x
  rw [← hx] at hone
  have HONE := Lib.hid hone
  have HX := Lib.hid hx
  have HKC := Lib.hid (HKB.out.grow (.cells #[.int .u64 (K : Int)] 22))
  have HRC := Lib.hid (HRB.out.grow (.cells #[.int .u64 (K : Int)] 22))
  have hrl := HRB.out.lt
  have hs2 := HB3.out.size
  have HB4 := Lib.hid (HB3.out.alloc hs2 (.cells #[.int .u64 (K : Int)] 22))
  have HG := Lib.hid ((Below.refl w1.heap.size (w2.setCell ⟨w.heap.size, 2, none⟩ (.slice A2 h d2))).alloc (by simpa using hw2s) (.cells #[.int .u64 (K : Int)] 22))
  have HO1d := Lib.hid (own_far HO1c.out HG.out hgl)
  have HO2d := Lib.hid (HO2c.out.alloc (.cells #[.int .u64 (K : Int)] 22))
  clear hx hone
  go_wp2_with (at_builtin; refine app_words rfl _ _ rfl w1.heap.size (.slice A2 h d2) h ps (some ⟨w2.heap.size, 0, none⟩) 1 1 [x] HO2d.out rfl (by simpa using HONE.out) rfl (by omega) (by simp; omega) ?_)
  intro v3 w3 ho3 hb3
  obtain ⟨A3, d3, rfl, hW3⟩ := own_words ho3
  clear hW3
  have ho1e := own_far HO1d.out hb3 hgl
  have hkd := HKC.out.below hb3 (by omega)
  have hrd := HRC.out.below hb3 (by omega)
  have hb5 := HB4.out.trans (hb3.mono (by omega))
  clear k0 k1 k2 r0 r1 r2 f0 f1 f2 g0 g1 g2 HO1c HO1d HO2c HO2d HB3 HB4 HKB HRB HKC HRC HG HONE hb3
  have f0 := hkd.free 0
  have f1 := hkd.free 1
  have f2 := hkd.free 2
  have g0 := hrd.free 0
  have g1 := hrd.free 1
  have g2 := hrd.free 2
  have k0 := hkd.cell 0
  have k1 := hkd.cell 1
  have k2 := hkd.cell 2
  have r0 := hrd.cell 0
  have r1 := hrd.cell 1
  have r2 := hrd.cell 2
  simp only [List.set_cons_succ, List.set_cons_zero, List.getElem?_cons_succ, List.getElem?_cons_zero] at k0 k1 k2 r0 r1 r2
  clear hkd hrd
  have HO1f := Lib.hid (ownsRow_setCell_below ho1e (a := ⟨w.heap.size, 2, none⟩) (by simp) (.slice A3 (h + 1) d3))
  have HO2f := Lib.hid (ownsRow_setCell_below ho3 (a := ⟨w.heap.size, 2, none⟩) (show w.heap.size < w1.heap.size by omega) (.slice A3 (h + 1) d3))
  have HB5 := Lib.hid (hb5.setCell (p := ⟨w.heap.size, 2, none⟩) (Nat.le_refl _) (.slice A3 (h + 1) d3))
  clear ho1e ho3 hb5
  go_wp2
  have hf : ∀ (W : World) (base : Nat) (v : Value) (m : Nat) (xs : List Value), W.ownsRow base 22 1 v m xs → w.heap.size + 1 < base → (((W.setCell ⟨w.heap.size + 1, 0, none⟩ (.int .i64 l)).setCell ⟨w.heap.size + 1, 1, none⟩ (.slice (some ⟨g, 0, none⟩) 18 c1)).setCell ⟨w.heap.size + 1, 2, none⟩ (.slice A3 (h + 1) d3)).ownsRow base 22 1 v m xs := fun W base v m xs h hb =>
    ownsRow_setCell_below (ownsRow_setCell_below (ownsRow_setCell_below h (a := ⟨w.heap.size + 1, 0, none⟩) hb _) (a := ⟨w.heap.size + 1, 1, none⟩) hb _) (a := ⟨w.heap.size + 1, 2, none⟩) hb _
  obtain ⟨A', c', e', hWA⟩ := own_words (hf _ _ _ _ _ HO1f.out (by omega))
  cases e'
  obtain ⟨B', c', e', hWB⟩ := own_words (hf _ _ _ _ _ HO2f.out (by omega))
  cases e'
  refine bodyPost_ret (v := .agg #[.int .i64 l, .slice (some ⟨g, 0, none⟩) 18 c1, .slice A3 (h + 1) d3]) (by simp [results, Try.results16, go_sem, r0, r1, r2]) rfl ⟨l, (some ⟨g, 0, none⟩), A3, 18, c1, (h + 1), d3, _, _, rfl, hWA, hWB, by omega, by omega, ?_⟩
  exact ((((HB5.out).setCell (p := ⟨w.heap.size + 1, 0, none⟩) (by simp) _).setCell (p := ⟨w.heap.size + 1, 1, none⟩) (by simp) _).setCell (p := ⟨w.heap.size + 1, 2, none⟩) (by simp) _)

theorem spoil4_any (l n : Int) (A B : Option Addr) (h c c2 : Nat) (cs ps : List (BitVec 64)) (w : World) (hA : Ws w A 18 cs) (hB : Ws w B h ps) (hh : h ≤ 4) :
    Calls Try.prog 16 #[.agg #[.int .i64 l, .slice A 18 c, .slice B h c2], .int .i64 n] w (Spo w) := by
  have h8 : n % 8 = 0 ∨ n % 8 = 1 ∨ n % 8 = 2 ∨ n % 8 = 3 ∨ n % 8 = 4 ∨ n % 8 = 5 ∨ n % 8 = 6 ∨ n % 8 = 7 := by omega
  rcases h8 with e | e | e | e | e | e | e | e
  · exact spoil0 l n A B h c c2 cs ps w hA hB hh e
  · exact spoil1 l n A B h c c2 cs ps w hA hB hh e
  · exact spoil2 l n A B h c c2 cs ps w hA hB hh e
  · exact spoil3 l n A B h c c2 cs ps w hA hB hh e
  · exact spoil4 l n A B h c c2 cs ps w hA hB hh e
  · exact spoil5 l n A B h c c2 cs ps w hA hB hh e
  · exact spoil6 l n A B h c c2 cs ps w hA hB hh e
  · exact spoil7 l n A B h c c2 cs ps w hA hB hh e
end Go.Proofs.Ythgahjihgoiklaa
