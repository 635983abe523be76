import Derived.Test.YtepinmeidjlmmaaDoorB6
namespace Go.Proofs.YtepinmeidjlmmaaDoor
open Go.RowKit

def itA : List It := [⟨1, 24, ⟨#[]⟩⟩]
def itT : List It := [⟨4, 0, ⟨#[97]⟩⟩]
def itM : List It := [⟨6, 1, ⟨#[]⟩⟩, ⟨1, 1, ⟨#[]⟩⟩, ⟨4, 0, ⟨#[97]⟩⟩]
theorem validA : validE itA = 0 := by decide +kernel
theorem encA : encAll itA = [24, 24] := by decide +kernel
theorem validT : validE itT = 0 := by decide +kernel
theorem validM : validE itM = 0 := by decide +kernel
theorem encM : encAll itM = [161, 1, 97, 97] := by decide +kernel

theorem encode_fix (l : List It) (bs : List Int) (n : Nat) (v : Value) (w : World) (hI : ItemsAt w w.heap.size v l) (ht : Tabs w) (hz : validE l = 0) (hb : encAll l = bs) (hn : bs.length = n) (hn0 : 0 < n) :
    Calls Tryd.prog 16 #[v] w fun e w' => ∃ g cap, e = .returned (.tuple #[.slice (some ⟨g, 0, none⟩) n cap, .int .i64 0]) ∧ g < w'.heap.size ∧ (∀ i, i < n → w'.cell? ⟨g, i, none⟩ = some (.int .u8 (bs.getD i 0))) ∧ Below w.heap.size w w' := by
  refine (encode_good l v w hI ht hz).mono ?_
  rintro e w' ⟨v', rfl, ho, hbl⟩
  rw [hb, hn] at ho
  obtain ⟨g, cap, rfl, hg, hlt⟩ := own_slice ho hn0
  exact ⟨g, cap, rfl, hlt, own_cells ho, hbl⟩

theorem hW4 (w : World) (o1 o2 o3 : Obj) : (((w.alloc o1).alloc o2).alloc o3).cell? ⟨w.heap.size, 0, none⟩ = (w.alloc o1).cell? ⟨w.heap.size, 0, none⟩ :=
  (((((Below.refl _ (w.alloc o1)).alloc (Nat.le_refl _) o2).alloc (by simp) o3)).cell (p := ⟨w.heap.size, 0, none⟩) (by simp))

set_option maxRecDepth 100000 in
set_option maxHeartbeats 1000000 in
theorem awake_any (w : World) (ht : Tabs w) : Calls Tryd.prog 15 #[] w fun e w' => e = .returned (.bool true) ∧ Below w.heap.size w w' := by
  have hB1 : Below w.heap.size w (w.alloc (.cells #[.int .i64 1, .int .u64 24, .string ⟨#[]⟩] 58)) := (Below.refl _ w).alloc (Nat.le_refl _) _
  have C1 := encode_fix itA [24, 24] 2 (.slice (some ⟨w.heap.size, 0, none⟩) 1 1) _ (itemsAt_one (by simp) (heap_new w (.cells (itemCs 1 24 ⟨#[]⟩) 58)) (by omega) (Nat.zero_le _)) (ht.later hB1) validA encA rfl (by omega)
  have HC1 := Lib.hid C1
  have HT := Lib.hid ht
  have HB1 := Lib.hid hB1
  clear C1 ht hB1
  go_enter Tryd.func15, Tryd.ntmps15
  go_wp2_with (go_at_call 16; refine HC1.out.mono ?_; rintro e w1 ⟨g1, cap1, rfl, hg1, hc1, hb1⟩)
  refine (text_any _ _).mono ?_
  rintro e w2 ⟨rfl, rfl⟩
  have hb1' := HB1.out.trans (hb1.mono HB1.out.size)
  have hW3 : Below w1.heap.size w1 (((w1.alloc (.cells #[.int .u64 1] 45)).alloc (.cells (itemCs 4 0 ⟨#[97]⟩) 58)).alloc (.cells #[.slice (some ⟨w1.heap.size + 1, 0, none⟩) 1 1] 22)) := (((Below.refl _ w1).alloc (Nat.le_refl _) _).alloc (by simp) _).alloc (by simp; omega) _
  have hb3 := hb1'.trans (hW3.mono hb1'.size)
  have C3 := map1 w1.heap.size (w1.heap.size + 2) 1 (w1.heap.size + 1) 0 1 itT (((w1.alloc (.cells #[.int .u64 1] 45)).alloc (.cells (itemCs 4 0 ⟨#[97]⟩) 58)).alloc (.cells #[.slice (some ⟨w1.heap.size + 1, 0, none⟩) 1 1] 22)) (by simp; omega) (by simp)
    ((hW4 w1 _ _ _).trans (by simp)) (cell_of_block (heap_new5 w1 _ _ _) rfl) (itemsAt_one (by simp) (heap_new6 w1 _ _ _) (by omega) (by unfold maxLen; decide)) (HT.out.later hb3) (by omega) (by decide) validT validM
  have HC3 := Lib.hid C3
  have HB3 := Lib.hid hb3
  have HC1c := Lib.hid (fun i hi => (hW3.cell (p := ⟨g1, i, none⟩) hg1).trans (hc1 i hi))
  clear C3 hb3 hW3 hb1' hb1 hc1
  go_wp2_with fail
  refine HC3.out.mono ?_
  rintro e w4 ⟨v4, rfl, hI4, hb4⟩
  have hb4' := HB3.out.trans (hb4.mono HB3.out.size)
  have C4 := encode_fix itM [161, 1, 97, 97] 4 v4 w4 hI4 (HT.out.later hb4') validM encM rfl (by omega)
  have HC4 := Lib.hid C4
  have HB4 := Lib.hid hb4'
  have hg14 : g1 < w4.heap.size := by have := hb4.size; simp at this; omega
  have HC1d := Lib.hid (fun i hi => (hb4.cell (p := ⟨g1, i, none⟩) (by simp; omega)).trans (HC1c.out i hi))
  clear C4 hI4 hb4 hb4' HC3 HC1c HC1 HB3 HB1
  go_wp2_with fail
  refine HC4.out.mono ?_
  rintro e w5 ⟨g2, cap2, rfl, hg2, hc2, hb5⟩
  have hb5' := HB4.out.trans (hb5.mono HB4.out.size)
  have hW6 : Below w5.heap.size w5 (w5.alloc (.cells #[.int .u8 24, .int .u8 23] 5)) := (Below.refl _ w5).alloc (Nat.le_refl _) _
  have hb6' := hb5'.trans (hW6.mono hb5'.size)
  have C6 := decode24_bad w5.heap.size 0 2 2 23 (w5.alloc (.cells #[.int .u8 24, .int .u8 23] 5)) (by simp) (by omega) (by omega) (by omega) (by simp) (by simp) (by omega) (by omega)
  have HC6 := Lib.hid C6
  have HB6 := Lib.hid hb6'
  have hg16 : g1 < (w5.alloc (.cells #[.int .u8 24, .int .u8 23] 5)).heap.size := by have := hb5.size; simp; omega
  have HC1e := Lib.hid (fun i hi => (hW6.cell (p := ⟨g1, i, none⟩) (by have := hb5.size; show g1 < _; omega)).trans ((hb5.cell (p := ⟨g1, i, none⟩) hg14).trans (HC1d.out i hi)))
  have HC2e := Lib.hid (fun i hi => (hW6.cell (p := ⟨g2, i, none⟩) hg2).trans (hc2 i hi))
  have hg26 : g2 < (w5.alloc (.cells #[.int .u8 24, .int .u8 23] 5)).heap.size := by simp; omega
  clear C6 hb6' hW6 hb5' hb5 hc2 HC4 HC1d HB4
  go_wp2_with fail
  refine HC6.out.mono ?_
  rintro e w7 ⟨rfl, hb7⟩
  have k1 : (convert 25 9 (.slice (some ⟨g1, 0, none⟩) 2 cap1)).run Tryd.prog w7 = .ok (.string ⟨#[24, 24]⟩) w7 :=
    run_convert_bytes_arg w7 25 5 Tryd.underlying25 Tryd.underlying5 g1 0 2 cap1 [24, 24] rfl (fun i hi => by rw [Nat.zero_add]; exact (hb7.cell (p := ⟨g1, i, none⟩) hg16).trans (HC1e.out i hi)) 9 Tryd.underlying9
  have k2 : (convert 25 9 (.slice (some ⟨g2, 0, none⟩) 4 cap2)).run Tryd.prog w7 = .ok (.string ⟨#[161, 1, 97, 97]⟩) w7 :=
    run_convert_bytes_arg w7 25 5 Tryd.underlying25 Tryd.underlying5 g2 0 4 cap2 [161, 1, 97, 97] rfl (fun i hi => by rw [Nat.zero_add]; exact (hb7.cell (p := ⟨g2, i, none⟩) hg26).trans (HC2e.out i hi)) 9 Tryd.underlying9
  have HB7 := Lib.hid (HB6.out.trans (hb7.mono HB6.out.size))
  clear hb7 HC1e HC2e HC6 HB6 hg16 hg26
  go_wp2
  go_ret
  exact ⟨rfl, HB7.out⟩

set_option maxRecDepth 100000 in
set_option maxHeartbeats 1000000 in
/-- two slices that read as the same items -/
theorem same_any (v1 v2 : Value) (B1 B2 : Nat) (l : List It) (w : World) (h1 : ItemsAt w B1 v1 l) (h2 : ItemsAt w B2 v2 l) :
    Calls Tryd.prog 24 #[v1, v2] w fun e w' => e = .returned (.bool true) ∧ ∃ m, w.drewN m = w' := by
  have hlen := h1.len
  rcases h1.form with ⟨rfl, rfl⟩ | ⟨b, off, cap, rfl, hb, hc⟩
  · rcases h2.form with ⟨rfl, _⟩ | ⟨b2, off2, cap2, rfl, hb2, hc2⟩
    · clear h1 h2
      go_enter Tryd.func24, Tryd.ntmps24
      go_wp2_with fail
      refine wp_loop_rounds 1 ?_
      rw [rounds_succ]
      go_wp2
      go_ret
      exact ⟨rfl, 0, rfl⟩
    · clear h1 h2 hc2
      go_enter Tryd.func24, Tryd.ntmps24
      go_wp2_with fail
      refine wp_loop_rounds 1 ?_
      rw [rounds_succ]
      go_wp2
      go_ret
      exact ⟨rfl, 0, rfl⟩
  · rcases h2.form with ⟨rfl, rfl⟩ | ⟨b2, off2, cap2, rfl, hb2, hc2⟩
    · clear h1 h2 hc
      go_enter Tryd.func24, Tryd.ntmps24
      go_wp2_with fail
      refine wp_loop_rounds 1 ?_
      rw [rounds_succ]
      go_wp2
      go_ret
      exact ⟨rfl, 0, rfl⟩
    · have H1 := Lib.hid hc
      have H2 := Lib.hid hc2
      clear h1 h2 hc hc2
      go_enter Tryd.func24, Tryd.ntmps24
      go_wp2_with fail
      go_loopw [5] (fun i wr => ∃ j : Nat, j ≤ l.length ∧ i = .int .i64 j ∧ ∃ m, w.drewN m = wr) (fun i _ => l.length - (intOf i).toNat)
      case atStart => exact ⟨0, by omega, rfl, 0, rfl⟩
      case round =>
        obtain ⟨j, hj, rfl, m, rfl⟩ := hrel
        by_cases hlt : j < l.length
        · obtain ⟨q0, q1, q2⟩ := H1.out j hlt
          obtain ⟨r0, r1, r2⟩ := H2.out j hlt
          generalize l[j] = x at q0 q1 q2 r0 r1 r2
          go_wp2_with fail
          go_quiet (fail)
          go_wp2_with fail
          go_roundw
          case rel => exact ⟨j + 1, by omega, by go_num, m + nq, rfl⟩
          case measure => simp [intOf]; omega
        · go_wp2
          go_ret
          exact ⟨rfl, m, rfl⟩
end Go.Proofs.YtepinmeidjlmmaaDoor
