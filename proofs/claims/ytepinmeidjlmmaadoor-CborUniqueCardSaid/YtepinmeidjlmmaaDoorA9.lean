import Derived.Test.YtepinmeidjlmmaaDoorA8
import Derived.Deep.DeepCutAuto
import Derived.BigRegion
import Derived.Deep.RegionLaw
import Derived.Deep.LoopGhost
namespace Go.Proofs.YtepinmeidjlmmaaDoor
open Go.RowKit

def EnR (w : World) (b base c : Nat) (s : List Lv) (k n : Int) (d : ByteArray) (wx : World) : Prop :=
  NF b w wx ∧ wx.heap[w.heap.size]? = some (.cells (itemCs k n d) 58 (0, 0)) ∧ ∃ v, nestAt wx base b c s v

theorem own_cap {w : World} {base e size n g cap : Nat} {xs : List Value} (h : w.ownsRow base e size (.slice (some ⟨g, 0, none⟩) n cap) n xs) : n ≤ cap := by
  rcases h.2 with ⟨h', _⟩ | ⟨g', cap', cur, h', _, _, hn, _⟩
  · cases h'
  · cases h'; exact hn

set_option maxRecDepth 100000 in
set_option maxHeartbeats 1000000 in
theorem enter_any {base b c : Nat} {s : List Lv} {v : Value} (k n : Int) (d : ByteArray) (w : World) (h : nestAt w base b c s v) (hn0 : 0 ≤ n) (hk6 : k = 6 → n ≤ 512) (hk5 : k = 5 → n ≤ 512) (hc : c + 1 ≤ 600) (hl : s.length ≤ 19)
    (hmi : ∀ t r, s = t :: r → 1 ≤ t.mi) (hkey : atKeyB s = true → (k = 1 ∨ k = 2 ∨ k = 4) ∧ d.size ≤ 1024) :
    Calls Tryd.prog 40 #[.pointer (some ⟨b, 0, none⟩), itemV k n d] w fun e w' => e = .returned (.tuple #[]) ∧ NF b w w' ∧ ∃ v', nestAt w' base b (c + 1) (enterS s k n d) v' := by
  have hbw : b < w.heap.size := Nat.lt_of_lt_of_le h.lt h.hb
  have h0 := h.cnt
  have hf0 := h.fr0
  have N1 := (nest_cnt h hc).later ((Below.refl _ _).alloc (Nat.le_refl _) (.cells #[.int .i64 k, .int .u64 n, .string d] 58))
  have F1 := (NF.setB w b 0 (.int .i64 ((c : Int) + 1)) (by omega)).trans (NF.of_below ((Below.refl _ _).alloc (Nat.le_refl _) (.cells #[.int .i64 k, .int .u64 n, .string d] 58)) (by simpa using hbw))
  have HN1 := Lib.hid N1
  have HF1 := Lib.hid F1
  have H := Lib.hid h
  have HK := Lib.hid hkey
  have HM := Lib.hid hmi
  have HC := Lib.hid hc
  clear N1 F1 h hkey hmi
  have hc2 : c ≤ 600 := by omega
  clear hc
  have hkl := keyS_len s k n d
  have hkm := keyS_mi (k := k) (n := n) (d := d) HM.out
  have hE : enterS s k n d = popAll (pushed (lessS (keyS s k n d)) k n) := rfl
  rw [hE]
  clear hE
  generalize hsk : keyS s k n d = sk at hkl hkm ⊢
  have HSK := Lib.hid hsk
  have HKM := Lib.hid hkm
  have hskl : sk.length ≤ 19 := by omega
  clear hsk hkm hkl
  unfold itemV
  go_enter Tryd.func40, Tryd.ntmps40
  go_upto_if 13 with (go_at_call 59; refine (atKey_any _ HN1.out).mono ?_; rintro e w2 ⟨rfl, m, rfl⟩)
  go_cut [] (fun wx => EnR w b base (c + 1) sk k n d wx)
  case first =>
    have N2 := HN1.out.later (below_drewN (Below.refl _ _) m)
    have F2 := HF1.out.trans (NF.of_below (below_drewN (Below.refl _ _) m) (by simp; omega))
    have B2 : (((w.setCell ⟨b, 0, none⟩ (.int .i64 ((c : Int) + 1))).alloc (.cells #[.int .i64 k, .int .u64 n, .string d] 58)).drewN m).heap[w.heap.size]? = some (.cells (itemCs k n d) 58 (0, 0)) := by
      have h := heap_new (w.setCell ⟨b, 0, none⟩ (.int .i64 ((c : Int) + 1))) (.cells (itemCs k n d) 58 (0, 0))
      rw [World.size_setCell] at h
      exact h
    generalize ((w.setCell ⟨b, 0, none⟩ (.int .i64 ((c : Int) + 1))).alloc (.cells #[.int .i64 k, .int .u64 n, .string d] 58)).drewN m = wx at N2 F2 B2 ⊢
    by_cases hA : atKeyB s = true
    · match s, hA with
      | t :: r, hA =>
        obtain ⟨g, cap, rfl, hg, _, _, c2, c3, c4, hf⟩ := nest_top N2
        obtain ⟨hk, hd⟩ := HK.out hA
        have hf2 := hf (r.length * 5 + 2)
        have hf3 := hf (r.length * 5 + 3)
        have hf4 := hf (r.length * 5 + 4)
        have h1 := N2.lv
        have b0 : wx.cell? ⟨w.heap.size, 0, none⟩ = some (.int .i64 k) := cell_of_block B2 rfl
        have b1 : wx.cell? ⟨w.heap.size, 1, none⟩ = some (.int .u64 n) := cell_of_block B2 rfl
        have b2 : wx.cell? ⟨w.heap.size, 2, none⟩ = some (.string d) := cell_of_block B2 rfl
        have hgx := (N2.own.lt g rfl).2
        have hbx : w.heap.size < wx.heap.size := lt_of_heap B2
        have hgw : ¬ g = w.heap.size := by
          intro e
          obtain ⟨cur, hrow⟩ := own_row100 N2.own
          rw [e, B2] at hrow
          cases hrow
        have hgb : ¬ g = b := by have := N2.lt; omega
        have hbg : ¬ b = g := by omega
        have hwg : ¬ w.heap.size = g := by omega
        simp at hl
        have hl2 : r.length ≤ 19 := by omega
        have HN2 := Lib.hid N2
        have HF2 := Lib.hid F2
        have HB2 := Lib.hid B2
        have HKK := Lib.hid hk
        clear hf N2 F2 B2 hk
        rw [hA]
        have HA := Lib.hid hA
        clear hA
        go_wp2_with fail
        go_region_held3 (fun W => W.cell? ⟨b, 1, none⟩ = some (.slice (some ⟨g, 0, none⟩) (r.length + 1) cap) ∧ W.cell? ⟨w.heap.size, 0, none⟩ = some (.int .i64 k) ∧ W.cell? ⟨w.heap.size, 1, none⟩ = some (.int .u64 n) ∧ W.cell? ⟨w.heap.size, 2, none⟩ = some (.string d))
          (((try refine ⟨?_, ?_, ?_, ?_⟩) <;> go_simp))
          ((go_at_call 60; refine (top_cell _ (And.left (by assumption)) hl2).mono ?_; rintro e w2 ⟨rfl, m2, rfl⟩))
        go_wp2_with fail
        go_meet
        have N3 := nest_key (HN2.out.later (below_drewN (Below.refl _ wx) (1 + m2))) HKK.out hn0 hd
        refine ⟨(HF2.out.trans (NF.of_below (below_drewN (Below.refl _ wx) (1 + m2)) (by omega))).trans N3.2, ?_, _, by rw [← HSK.out, keyS_yes HA.out]; exact N3.1⟩
        rw [heap_setCell_other _ _ _ _ hwg, heap_setCell_other _ _ _ _ hwg, heap_setCell_other _ _ _ _ hwg]
        exact HB2.out
    · have hA2 : atKeyB s = false := by simpa using hA
      have HR := Lib.hid (show EnR w b base (c + 1) s k n d wx from ⟨F2, B2, _, N2⟩)
      clear N2 F2 B2
      go_wp2_with fail
      go_meet
      rw [← HSK.out, keyS_no hA2]
      exact HR.out
  case rest =>
    obtain ⟨F1, B1, v1, N1⟩ := hcut
    have HF1 := Lib.hid F1
    have HB1 := Lib.hid B1
    have h1 := N1.lv
    obtain ⟨a1, cap1, rfl⟩ := nest_len N1
    have HN2 := Lib.hid N1
    clear N1 F1 B1 h0 hf0 HN1 HK HM hl
    go_upto_if 24 with fail
    go_cut [] (fun wx => EnR w b base (c + 1) (lessS sk) k n d wx)
    case first =>
      cases sk with
      | nil =>
        go_wp2_with fail
        go_meet
        exact ⟨HF1.out, HB1.out, _, HN2.out⟩
      | cons t r =>
        obtain ⟨g, cap, e, hg, _, c1, _, _, _, hf⟩ := nest_top HN2.out
        simp only [List.length_cons] at e
        cases e
        have hfm := hf (r.length * 5 + 1)
        have hgx := (HN2.out.own.lt g rfl).2
        have hwg : ¬ w.heap.size = g := by
          intro e
          obtain ⟨cur, hrow⟩ := own_row100 HN2.out.own
          rw [← e, HB1.out] at hrow
          cases hrow
        have hgb : ¬ g = b := by have := HN2.out.lt; omega
        have hbg : ¬ b = g := by omega
        obtain ⟨_, hm2, _⟩ := HN2.out.ok t (by simp)
        have hm1 := HKM.out t r rfl
        simp only [List.length_cons] at hskl
        have hl2 : r.length ≤ 19 := by omega
        have hdec : decide (0 < (t :: r).length) = true := by simp
        rw [hdec]
        clear hf hdec
        go_wp2_with (go_at_call 60; refine (top_cell _ (by exact h1) hl2).mono ?_; rintro e w2 ⟨rfl, m2, rfl⟩)
        go_meet
        have N3 := nest_less (HN2.out.later (below_drewN (Below.refl _ wc) m2)) hm1
        refine ⟨(HF1.out.trans (NF.of_below (below_drewN (Below.refl _ wc) m2) (by have := HF1.out.size; omega))).trans N3.2, ?_, _, N3.1⟩
        rw [heap_setCell_other _ _ _ _ hwg]
        exact HB1.out
    case rest =>
      generalize hs2 : lessS sk = sl at hcut
      have hll : sl.length ≤ 19 := by rw [← hs2, lessS_len]; exact hskl
      have HS2 := Lib.hid hs2
      clear hs2 HN2 HF1 HB1 h1 HKM hskl
      obtain ⟨F1, B1, v2, N1⟩ := hcut
      have HF1 := Lib.hid F1
      have HB1 := Lib.hid B1
      have b0 : wc.cell? ⟨w.heap.size, 0, none⟩ = some (.int .i64 k) := cell_of_block B1 rfl
      have b1 : wc.cell? ⟨w.heap.size, 1, none⟩ = some (.int .u64 n) := cell_of_block B1 rfl
      have b2 : wc.cell? ⟨w.heap.size, 2, none⟩ = some (.string d) := cell_of_block B1 rfl
      have hbw2 : w.heap.size < wc.heap.size := lt_of_heap B1
      have HN2 := Lib.hid N1
      clear N1 F1 B1
      have hbw3 : b < wc.heap.size := by have := HF1.out.size; omega
      go_upto_if 36 with (go_at_call 47; refine (parts_any _ _ _ _ hn0 hk6).mono ?_; rintro e w2 ⟨rfl, rfl⟩)
      go_cut [] (fun wx => NF b w wx ∧ ∃ v, nestAt wx base b (c + 1) (pushed sl k n) v)
      case first =>
        by_cases hp : 0 < partsN k n
        · have hple := partsN_le hk5 hk6
          have h1 := HN2.out.lv
          have HOK := Lib.hid (newLv_ok hp hple)
          have hf1 := HN2.out.fr1
          have hl20 : sl.length + 1 ≤ 20 := by omega
          go_wp2_with fail
          go_region_law ((refine step_push rfl _ _ rfl (newLv k n) (by exact HN2.out.later (((Below.refl _ wc).alloc (Nat.le_refl _) _).alloc (by simp) _).drew) rfl _ rfl (by exact heap_new3 wc _ _) hl20 HOK.out ?_; intro g' cap' w' e1 e2 hNF hNest hsz hkp))
          all_goals
            go_wp2_with fail
            go_meet
            exact ⟨(HF1.out.trans (NF.of_below (((Below.refl _ wc).alloc (Nat.le_refl _) _).alloc (by simp) _).drew hbw3)).trans hNF, _, by rw [pushed_yes (by omega)]; exact hNest⟩
        · have hN3 := HN2.out.later ((Below.refl _ wc).alloc (Nat.le_refl _) (.cells #[.int .i64 k, .int .u64 n, .string d] 58))
          go_wp2_with fail
          go_meet
          exact ⟨HF1.out.trans (NF.of_below ((Below.refl _ wc).alloc (Nat.le_refl _) _) hbw3), v2, by rw [pushed_no (by omega)]; exact hN3⟩
      case rest =>
        clear HN2 HF1 HB1 b0 b1 b2 hbw2 hbw3 hk5 hk6
        have HCUT := Lib.hid hcut
        clear hcut
        have hbwc : b < wc.heap.size := by have := HCUT.out.1.size; omega
        go_wp2_with fail
        go_loopg [] ((pushed sl k n).length + 1) (fun gk wx => NF b w wx ∧ ∃ st v, nestAt wx base b (c + 1) st v ∧ popAll st = popAll (pushed sl k n) ∧ st.length < gk)
        case atStart =>
          obtain ⟨v3, hv3⟩ := HCUT.out.2
          exact ⟨HCUT.out.1, _, v3, hv3, rfl, by omega⟩
        case round =>
          obtain ⟨F4, st, v4, N4, e4, hg4⟩ := hrel
          have HF4 := Lib.hid F4
          have HE4 := Lib.hid e4
          have h1 := N4.lv
          have hbx : b < wr.heap.size := by have := F4.size; omega
          clear F4 e4
          cases st with
          | nil =>
            obtain ⟨a4, cap4, rfl⟩ := nest_len N4
            have HN4 := Lib.hid N4
            clear N4
            go_wp2
            go_end0
            exact ⟨rfl, HF4.out, .slice a4 0 cap4, by rw [HS2.out, ← HE4.out]; exact HN4.out⟩
          | cons t r =>
            obtain ⟨g, cap, rfl, hg, _, c1, _, _, _, hf⟩ := nest_top N4
            have hl4 := N4.len
            obtain ⟨hm0, hm1, _⟩ := N4.ok t (by simp)
            have hf1 := N4.fr1
            have HN4 := Lib.hid N4
            have hcap := own_cap N4.own
            simp only [List.length_cons] at hl4 hg4 hcap
            have hl2 : r.length ≤ 19 := by omega
            clear N4 hf
            by_cases hz : t.mi = 0
            · have hzb : (t.mi == 0) = true := by simp [hz]
              have HZ := Lib.hid hz
              clear hz
              go_wp2_with (go_at_call 60; refine (top_cell _ (by exact h1) hl2).mono ?_; rintro e w2 ⟨rfl, m2, rfl⟩)
              go_region
              all_goals
                go_wp2_with fail
                go_roundg (r.length + 1)
                case measure => omega
                case rel =>
                  have N5 := HN4.out.later (below_drewN (Below.refl _ wr) (m2 + 1))
                  refine ⟨(HF4.out.trans (NF.of_below (below_drewN (Below.refl _ wr) (m2 + 1)) hbx)).trans (NF.setB _ b 1 _ (by omega)), r, _, nest_pop N5, ?_, by omega⟩
                  rw [← HE4.out, popAll_z HZ.out]
            · have hzb : (t.mi == 0) = false := by simp [hz]
              have HZ := Lib.hid hz
              clear hz
              go_wp2_with (go_at_call 60; refine (top_cell _ (by exact h1) hl2).mono ?_; rintro e w2 ⟨rfl, m2, rfl⟩)
              go_end0
              have N5 := HN4.out.later (below_drewN (Below.refl _ wr) m2)
              exact ⟨rfl, HF4.out.trans (NF.of_below (below_drewN (Below.refl _ wr) m2) hbx), _, by rw [HS2.out, ← HE4.out, popAll_nz HZ.out]; exact N5⟩
end Go.Proofs.YtepinmeidjlmmaaDoor
