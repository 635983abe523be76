/- Secret and the public word of values, of both. -/
import Derived.Test.YthgahjihgoiklaaOtC
namespace Go.Proofs.Ythgahjihgoiklaa
open Go.RowKit
set_option maxRecDepth 100000

theorem owns_base {w : World} {base base' e size n : Nat} {v : Value} {xs : List Value} (h : w.ownsRow base e size v n xs) (hb : base' ≤ base) : w.ownsRow base' e size v n xs :=
  ⟨h.1, h.2.imp id fun ⟨g, cap, cur, hv, hg, r⟩ => ⟨g, cap, cur, hv, Nat.le_trans hb hg, r⟩⟩
theorem words2_new (p q : BitVec 64) (w : World) :
    Calls Try.prog 38 #[.slice (some ⟨w.heap.size, 0, none⟩) 2 2] (w.alloc (.cells #[.int .u64 (val p), .int .u64 (val q)] 22)) fun e w' => ∃ A cap, e = .returned (.slice A 16 cap) ∧ 16 ≤ cap ∧ cap ≤ 9223372036854775807 ∧ Bytes w' A 16 (wsBytes [p, q]) ∧ Below w.heap.size w w' :=
  words_new _ [p, q] 2 w rfl rfl (by omega)
theorem wordsR2_new (p q : BitVec 64) (w : World) :
    Calls Try.prog 39 #[.slice (some ⟨w.heap.size, 0, none⟩) 2 2] (w.alloc (.cells #[.int .u64 (val p), .int .u64 (val q)] 22)) fun e w' => ∃ A cap, e = .returned (.slice A 16 cap) ∧ 16 ≤ cap ∧ cap ≤ 9223372036854775807 ∧ Bytes w' A 16 (wsBytes [p, q]) ∧ Below w.heap.size w w' :=
  wordsR_new _ [p, q] 2 w rfl rfl (by omega)

set_option maxHeartbeats 1000000 in
theorem secret_any (s : BitVec 64) (l c : Int) (w : World) :
    Calls Try.prog 52 #[.int .u64 (val s), .int .i64 l, .int .i64 c] w fun e w' => e = .returned (.int .u64 (val (secF s l c))) ∧ Below w.heap.size w w' := by
  go_enter Try.func52, Try.ntmps52
  go_wp2_with fail
  rw [val_wrap, val_wrap]
  refine (words2_new _ _ _).mono ?_
  rintro e w1 ⟨A1, cp1, rfl, hc1, hc2, hB1, hb1⟩
  go_wp2_with fail
  refine (mac_any s 1 A1 _ cp1 _ _ hB1 hc1 hc2).mono ?_
  rintro e w2 ⟨rfl, hb2⟩
  go_wp2
  go_ret
  exact ⟨rfl, hb1.trans (hb2.mono hb1.size)⟩
set_option maxHeartbeats 1000000 in
theorem secretR_any (s : BitVec 64) (l c : Int) (w : World) :
    Calls Try.prog 55 #[.int .u64 (val s), .int .i64 l, .int .i64 c] w fun e w' => e = .returned (.int .u64 (val (secF s l c))) ∧ Below w.heap.size w w' := by
  go_enter Try.func55, Try.ntmps55
  go_wp2_with fail
  rw [val_wrap, val_wrap]
  refine (wordsR2_new _ _ _).mono ?_
  rintro e w1 ⟨A1, cp1, rfl, hc1, hc2, hB1, hb1⟩
  go_wp2_with fail
  refine (macR_any s 1 A1 _ cp1 _ _ hB1 (by omega)).mono ?_
  rintro e w2 ⟨rfl, hb2⟩
  go_wp2
  go_ret
  exact ⟨rfl, hb1.trans (hb2.mono hb1.size)⟩

/-- the public word of the values at the ends of a leaf's chains -/
def pubF (l : Int) (ws : List (BitVec 64)) : BitVec 64 := sipHash 2 (wsBytes (BitVec.ofInt 64 l :: ws))
theorem wv_all (l : List (BitVec 64)) : (wv l).toArray.all (·.oneCell') = true := by
  rw [Array.all_eq_true_iff_forall_mem]
  intro u hu
  exact wv_one l u (by simpa using hu)
theorem size_values : (Try.prog.info? 73).map (·.size) = some 18 := by kernel_rfl

set_option maxHeartbeats 1000000 in
theorem ends_any (l : Int) (ws : List (BitVec 64)) (A : Option Addr) (n cap : Nat) (w : World) (hw : Ws w A n ws) (hn : n ≤ 1000) (hn0 : 0 < n) :
    Calls Try.prog 58 #[.int .i64 l, .slice A n cap] w fun e w' => e = .returned (.int .u64 (val (pubF l ws))) ∧ Below w.heap.size w w' := by
  go_enter Try.func58, Try.ntmps58
  go_wp2_with fail
  rw [val_wrap]
  refine (wordsR_any _ 1 1 [BitVec.ofInt 64 l] _ (Ws.one w _) (by omega)).mono ?_
  rintro e w1 ⟨v1, rfl, ho1, hb1⟩
  have hb1' : Below w.heap.size w w1 := ((Below.refl _ w).alloc (Nat.le_refl _) _).trans (hb1.mono (by simp))
  have HO1 := Lib.hid ho1
  clear ho1
  go_wp2_with fail
  refine (wordsR_any A n cap ws _ (hw.below hb1') (by omega)).mono ?_
  rintro e w2 ⟨v2, rfl, ho2, hb2⟩
  obtain ⟨A2, cp2, rfl, _, _, hB2⟩ := own_bytes ho2 (wsBytes_rng _)
  have ho1 := owns_below HO1.out hb2
  have HB12 := Lib.hid (hb1'.trans (hb2.mono hb1'.size))
  have hsz2 := HB12.out.size
  clear ho2 hb2 hb1 hb1' HO1
  simp only [World.size_alloc] at ho1
  have HO1 := Lib.hid (owns_base ho1 (Nat.le_succ w.heap.size))
  clear ho1
  go_wp2_with (first
    | (at_builtin; refine app_bytes rfl _ _ rfl w.heap.size v1 _ (wsBytes [BitVec.ofInt 64 l]) A2 _ cp2 (wsBytes ws) HO1.out rfl hB2 rfl (by omega) (by omega) hsz2 ?_; intro v3 w3 ho3 hb3)
    | fail)
  rw [← wsBytes_app] at ho3
  obtain ⟨A3, cp3, rfl, _, _, hB3⟩ := own_bytes ho3 (wsBytes_rng _)
  refine (hashR_any 2 A3 _ cp3 _ _ hB3 (by omega)).mono ?_
  rintro e w4 ⟨rfl, hb4⟩
  have hb14 := (HB12.out.trans hb3)
  go_wp2
  go_ret
  exact ⟨rfl, hb14.trans (hb4.mono hb14.size)⟩
end Go.Proofs.Ythgahjihgoiklaa
