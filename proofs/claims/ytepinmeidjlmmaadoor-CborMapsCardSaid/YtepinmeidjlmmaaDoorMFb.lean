/- The law CborMaps: the first value changed. -/
import Derived.Test.YtepinmeidjlmmaaDoorME
namespace Go.Proofs.YtepinmeidjlmmaaDoor
open Go.RowKit
set_option maxRecDepth 100000

set_option maxHeartbeats 4000000 in
theorem maps_spoilt (A R : Option Addr) (n kcap M rc : Nat) (l : List Int) (K : Nat → Int) (z : Int) (w : World) (hk : ∀ i, i < n → ∃ ka, A = some ka ∧ w.cell? (ka.add i) = some (.int .u64 (K i))) (hK : ∀ i, 0 ≤ K i) (h12 : n ≤ 12)
    (h : Ints w R M l) (hcap : M ≤ rc) (hm : rc ≤ 9223372036854775807) (ht : Tabs w)
    (h1 : z % 16 = 1) (hn0 : 0 < n) :
    Calls Tryd.prog 11 #[.slice A n kcap, .slice R M rc, .int .i64 z] w fun e w' => e = .returned (.bool true) ∧ Below w.heap.size w w' := by
  have HK := Lib.hid hk
  have HKK := Lib.hid hK
  have HI := Lib.hid h
  have HT := Lib.hid ht
  have HM9 := Lib.hid hm
  have hand : bits .and .i64 z 15 = z % 16 := bits_low 4 (by decide) z
  clear hk hK h ht hm
  have h12' : ¬ (12 : Int) < (n : Int) := by omega
  go_enter Tryd.func11, Tryd.ntmps11
  go_wp2_with fail
  go_loopw [7, 8] (fun v iv wr => ∃ (i : Nat) (ls : List (List It)), i ≤ n ∧ iv = .int .i64 i ∧ ls.length = i ∧ VN wr w.heap.size v ls ∧ (∀ l ∈ ls, Nice l) ∧ Below w.heap.size w wr) (fun _ iv _ => n - (intOf iv).toNat)
  case atStart => exact ⟨0, [], by omega, rfl, rfl, VN.nil _ _ (Nat.le_refl _), by simp, Below.refl _ _⟩
  case round =>
    obtain ⟨i, ls, hin, rfl, hli, hV, hL, hb⟩ := hrel
    have HV := Lib.hid hV
    have HL := Lib.hid hL
    have HB := Lib.hid hb
    have HIw := Lib.hid (HI.out.below hb)
    have hsz := hb.size
    have hvo : ∀ g, u7.ownBlock = some g → g < wr.heap.size := by
      obtain ⟨_, vs, ho, _⟩ := hV
      exact fun g hg => (ho.lt g hg).2
    have HVO := Lib.hid hvo
    clear hb hV hL hvo
    by_cases hlt : i < n
    · have hiI : (i : Int) < (n : Int) := by omega
      have hwi : wrap64 (2 * (i : Int)) = 2 * (i : Int) := by unfold wrap64; omega
      have hi2 : (0 : Int) ≤ 2 * (i : Int) := by omega
      have htn : (2 * (i : Int)).toNat = 2 * i := by omega
      have hMr : (M : Int) ≤ (rc : Int) := by omega
      by_cases hc : 2 * i < M
      · have hc1 : 2 * (i : Int) < (M : Int) := by omega
        have hc2 : ¬ (M : Int) < 2 * (i : Int) := by omega
        have hc3 : 2 * (i : Int) ≤ (M : Int) := by omega
        have hc4 : ¬ (M : Int) ≤ 2 * (i : Int) := by omega
        have hc5 : ¬ rc ≤ 2 * i := by omega
        have hc6 : 2 * (i : Int) ≤ (rc : Int) := by omega
        have hmn : min (M : Int) (2 * (i : Int)) = 2 * (i : Int) := by omega
        have HCUT := Lib.hid (HIw.out.cut (k := 2 * i) (by omega))
        go_wp2_with fail
        refine (Tree_any _ _ _ (l.drop (2 * i)) wr HCUT.out (by have := HM9.out; omega)).mono ?_
        rintro e w1 ⟨g, c9, rfl, ho, hb1⟩
        have HIT := Lib.hid (tree_items ho)
        have hg1 := (ho.lt g rfl).1
        have hg2 := (ho.lt g rfl).2
        have HNI := Lib.hid (tree_nice (l.drop (2 * i)))
        have HB1 := Lib.hid hb1
        have hs1 := hb1.size
        clear ho hb1
        generalize treeL (l.drop (2 * i)) = tl at *
        go_wp2_with (at_builtin; refine app_val rfl _ _ rfl (base := w.heap.size) (ls := ls) ((HV.out.below HB1.out).below ((Below.refl _ w1).alloc (Nat.le_refl _) (.cells #[.slice (some ⟨g, 0, none⟩) tl.length c9] 22))) rfl (by omega) w1.heap.size tl (some ⟨g, 0, none⟩) c9 (heap_new w1 _) rfl (itemsAt_mono (HIT.out.below ((Below.refl _ w1).alloc (Nat.le_refl _) _)) (by simp)) (by intro ad had; cases had; exact ⟨fun e => by have := HVO.out g e.symm; omega, by simp; omega⟩) ?_)
        intro v3 w3 hv3 hb3
        have HV3 := Lib.hid hv3
        have HB3 := Lib.hid ((HB.out.trans (HB1.out.mono hsz)).trans (((Below.refl _ w1).alloc (by omega) (.cells #[.slice (some ⟨g, 0, none⟩) tl.length c9] 22)).trans hb3))
        clear hv3 hb3
        go_wp2
        go_roundw
        case rel => exact ⟨i + 1, ls ++ [tl], by omega, by go_num, by simp [hli], HV3.out, (fun y hy => by
          rcases List.mem_append.1 hy with h1 | h1
          · exact HL.out y h1
          · rw [List.mem_singleton.1 h1]; exact HNI.out), HB3.out⟩
        case measure => (simp [intOf] <;> omega)
      · have hc2 : (M : Int) ≤ 2 * (i : Int) := by omega
        have hc3 : ¬ 2 * (i : Int) < (M : Int) := by omega
        have hmn : min (M : Int) (2 * (i : Int)) = (M : Int) := by omega
        by_cases hr : rc ≤ M
        · go_wp2_with fail
          refine (Tree_any _ 0 _ [] wr (Ints.none0 wr _) (by omega)).mono ?_
          rintro e w1 ⟨g, c9, rfl, ho, hb1⟩
          have HIT := Lib.hid (tree_items ho)
          have hg1 := (ho.lt g rfl).1
          have hg2 := (ho.lt g rfl).2
          have HNI := Lib.hid (tree_nice ([]))
          have HB1 := Lib.hid hb1
          have hs1 := hb1.size
          clear ho hb1
          generalize treeL ([]) = tl at *
          go_wp2_with (at_builtin; refine app_val rfl _ _ rfl (base := w.heap.size) (ls := ls) ((HV.out.below HB1.out).below ((Below.refl _ w1).alloc (Nat.le_refl _) (.cells #[.slice (some ⟨g, 0, none⟩) tl.length c9] 22))) rfl (by omega) w1.heap.size tl (some ⟨g, 0, none⟩) c9 (heap_new w1 _) rfl (itemsAt_mono (HIT.out.below ((Below.refl _ w1).alloc (Nat.le_refl _) _)) (by simp)) (by intro ad had; cases had; exact ⟨fun e => by have := HVO.out g e.symm; omega, by simp; omega⟩) ?_)
          intro v3 w3 hv3 hb3
          have HV3 := Lib.hid hv3
          have HB3 := Lib.hid ((HB.out.trans (HB1.out.mono hsz)).trans (((Below.refl _ w1).alloc (by omega) (.cells #[.slice (some ⟨g, 0, none⟩) tl.length c9] 22)).trans hb3))
          clear hv3 hb3
          go_wp2
          go_roundw
          case rel => exact ⟨i + 1, ls ++ [tl], by omega, by go_num, by simp [hli], HV3.out, (fun y hy => by
            rcases List.mem_append.1 hy with h1 | h1
            · exact HL.out y h1
            · rw [List.mem_singleton.1 h1]; exact HNI.out), HB3.out⟩
          case measure => (simp [intOf] <;> omega)
        · go_wp2_with fail
          refine (Tree_any _ 0 _ [] wr (Ints.none0 wr _) (by omega)).mono ?_
          rintro e w1 ⟨g, c9, rfl, ho, hb1⟩
          have HIT := Lib.hid (tree_items ho)
          have hg1 := (ho.lt g rfl).1
          have hg2 := (ho.lt g rfl).2
          have HNI := Lib.hid (tree_nice ([]))
          have HB1 := Lib.hid hb1
          have hs1 := hb1.size
          clear ho hb1
          generalize treeL ([]) = tl at *
          go_wp2_with (at_builtin; refine app_val rfl _ _ rfl (base := w.heap.size) (ls := ls) ((HV.out.below HB1.out).below ((Below.refl _ w1).alloc (Nat.le_refl _) (.cells #[.slice (some ⟨g, 0, none⟩) tl.length c9] 22))) rfl (by omega) w1.heap.size tl (some ⟨g, 0, none⟩) c9 (heap_new w1 _) rfl (itemsAt_mono (HIT.out.below ((Below.refl _ w1).alloc (Nat.le_refl _) _)) (by simp)) (by intro ad had; cases had; exact ⟨fun e => by have := HVO.out g e.symm; omega, by simp; omega⟩) ?_)
          intro v3 w3 hv3 hb3
          have HV3 := Lib.hid hv3
          have HB3 := Lib.hid ((HB.out.trans (HB1.out.mono hsz)).trans (((Below.refl _ w1).alloc (by omega) (.cells #[.slice (some ⟨g, 0, none⟩) tl.length c9] 22)).trans hb3))
          clear hv3 hb3
          go_wp2
          go_roundw
          case rel => exact ⟨i + 1, ls ++ [tl], by omega, by go_num, by simp [hli], HV3.out, (fun y hy => by
            rcases List.mem_append.1 hy with h1 | h1
            · exact HL.out y h1
            · rw [List.mem_singleton.1 h1]; exact HNI.out), HB3.out⟩
          case measure => (simp [intOf] <;> omega)
    · have hni : i = n := by omega
      subst hni
      clear hlt hin
      have HKw : Hid (∀ j, j < i → ∃ ka, A = some ka ∧ wr.cell? (ka.add j) = some (.int .u64 (K j))) := Lib.hid (fun j hj => by
        obtain ⟨ka, e, hc⟩ := HK.out j hj
        exact ⟨ka, e, (HB.out.cell (cellIn hc)).trans hc⟩)
      have HTw := Lib.hid (HT.out.later HB.out)
      clear HIw
      cases ls with
      | nil => exact absurd hli (by simp; omega)
      | cons l0 rest =>
      obtain ⟨g, cap, A9, c9, rfl, hp, hf, hI0, hbg, hgl⟩ := HV.out.at0
      have hni := HL.out l0 (List.mem_cons_self ..)
      obtain ⟨b, off, rfl⟩ : ∃ b off, A9 = some ⟨b, off, none⟩ := by
        rcases hI0.form with ⟨_, h9⟩ | ⟨b, off, cc, hve, _, _⟩
        · exact absurd h9 hni.1
        · cases hve; exact ⟨b, off, rfl⟩
      obtain ⟨m, hm⟩ := Int.eq_ofNat_of_zero_le (Int.emod_nonneg (z / 16) (b := 1048576) (by decide))
      have hand2 : bits .and .i64 (z / 16) 1048575 = (m : Int) := (bits_low 20 (by decide) (z / 16)).trans hm
      have hlr : rest.length ≤ 12 := by simp at hli; omega
      clear hli
      have hr0 : (0 : Int) < (rest.length : Int) + 1 := by omega
      have hr1 : 0 < rest.length + 1 := by omega
      have HI0 := Lib.hid hI0
      have HNI := Lib.hid hni
      have HP := Lib.hid hp
      have HFz := Lib.hid hf
      have HVV := Lib.hid HV.out.vs
      have HFr : Hid (∀ l ∈ rest, Fair l) := Lib.hid fun l hl => (HL.out l (List.mem_cons_of_mem _ hl)).fair
      clear hI0 hni hf hm HV HL HVO
      go_wp2_with fail
      refine (spoil_any b off c9 m l0 wr HI0.out HNI.out.2.2 HNI.out.1 (Nat.le_trans HNI.out.2.1 (by decide))).mono ?_
      rintro e w1 ⟨ys, A2, c2, rfl, hI2, hb2, hty, hly, _⟩
      have p1 := (hb2.cell (p := ⟨g, 0, none⟩) hgl).trans HP.out
      have f1 := (hb2.frozen (p := ⟨g, 0, none⟩) hgl).trans HFz.out
      have hvs : VS w1 w1.heap.size (.slice (some ⟨g, 0, none⟩) (rest.length + 1) cap) (l0 :: rest) := (HVV.out.below hb2).mono hb2.size
      have hvs2 := hvs.set0 hI2
      have hbw9 := (HB.out.trans (hb2.mono HB.out.size)).setCell (p := ⟨g, 0, none⟩) hbg (.slice A2 ys.length c2)
      have hsw9 : (w1.setCell ⟨g, 0, none⟩ (.slice A2 ys.length c2)).heap.size = w1.heap.size := by simp
      have hp1 : w1.cell? ⟨g, 0, none⟩ = some (.slice (some ⟨b, off, none⟩) l0.length c9) := p1
      rw [← hsw9] at hvs2
      obtain ⟨w9, hw9⟩ : ∃ w9, w1.setCell ⟨g, 0, none⟩ (.slice A2 ys.length c2) = w9 := ⟨_, rfl⟩
      rw [hw9] at hvs2 hbw9
      have HVS := Lib.hid hvs2
      have HBw := Lib.hid hbw9
      have HF : Hid (∀ l ∈ ys :: rest, Fair l) := Lib.hid fun l hl => by
        rcases List.mem_cons.1 hl with rfl | h1
        · exact ⟨hly, fun x hx => (hty x hx).1⟩
        · exact HFr.out l h1
      have hlm : (ys :: rest).length ≤ 13 := by simp; omega
      have HKw : Hid (∀ j, j < i → ∃ ka, A = some ka ∧ w9.cell? (ka.add j) = some (.int .u64 (K j))) := Lib.hid (fun j hj => by
        obtain ⟨ka, e, hc⟩ := HK.out j hj
        exact ⟨ka, e, (HBw.out.cell (cellIn hc)).trans hc⟩)
      have HTw := Lib.hid (HT.out.later HBw.out)
      have HW9 := Lib.hid hw9
      have hlen9 : (ys :: rest).length = rest.length + 1 := rfl
      clear hI2 hb2 hty hly hvs hvs2 hbw9 hsw9 hp1 hw9 HI0 HNI HP HFz HVV HFr hp
      have HM : Hid (∀ l ∈ (ys :: rest), l.length ≤ 1000) := Lib.hid fun l hl => Nat.le_trans (HF.out l hl).1 (by decide)
      have HT9 : Hid (total (ys :: rest) ≤ 900000) := Lib.hid (by have := total_fair HF.out; have := hlm; omega)
      go_wp2_with fail
      rw [HW9.out]
      refine (map_any A i kcap _ (ys :: rest) K w9 HKw.out HVS.out HTw.out h12 hlm HKK.out HM.out).mono ?_
      rintro e wa ⟨⟨E1, LA⟩, hMR, va, rfl, hIa, hca, hba⟩
      dsimp only at hIa hca
      have HMR := Lib.hid hMR
      have HIa := Lib.hid hIa
      have HCa := Lib.hid hca
      have HVa := Lib.hid ((HVS.out.below hba).mono hba.size)
      have HTa := Lib.hid (HTw.out.later hba)
      have HBa := Lib.hid hba
      have HKa : Hid (∀ j, j < i → ∃ ka, A = some ka ∧ wa.cell? (ka.add j) = some (.int .u64 (K j))) := Lib.hid (fun j hj => by
        obtain ⟨ka, e, hc⟩ := HKw.out j hj
        exact ⟨ka, e, (hba.cell (cellIn hc)).trans hc⟩)
      clear hMR hIa hca hba
      go_wp2_with fail
      refine (mapR_any A i kcap _ (ys :: rest) K wa HKa.out HVa.out HTa.out h12 hlm HKK.out HM.out).mono ?_
      rintro e wb ⟨r', hMR', vb, rfl, hIb, _, hbb⟩
      obtain rfl := mapR_one hMR' HMR.out
      dsimp only at hIb ⊢
      have HIb := Lib.hid hIb
      have HIab := Lib.hid (itemsAt_mono (HIa.out.below hbb) hbb.size)
      have HVb := Lib.hid ((HVa.out.below hbb).mono hbb.size)
      have HTb := Lib.hid (HTa.out.later hbb)
      have HBb := Lib.hid (HBa.out.trans (hbb.mono HBa.out.size))
      clear hMR' hIb hbb
      go_wp2_with fail
      refine (array_any _ (ys :: rest) wb HVb.out HTb.out (by omega) (Nat.le_trans HT9.out (by decide))).mono ?_
      rintro e wc ⟨vc, rfl, hIc, _, hbc⟩
      have HRR : Hid (∀ W', VS W' W'.heap.size (.slice (some ⟨g, 0, none⟩) (rest.length + 1) cap) (ys :: rest) → Tabs W' → Calls Tryd.prog 33 #[.slice (some ⟨g, 0, none⟩) (rest.length + 1) cap] W' (ResP (arrayE (ys :: rest)) W')) := Lib.hid (fun W' h1 h2 => arrayR_any _ (ys :: rest) W' h1 h2 (by omega) HT9.out)
      generalize arrayE (ys :: rest) = q at *
      obtain ⟨E2, LC⟩ := q
      dsimp only at hIc ⊢
      have HIc := Lib.hid hIc
      have HIac := Lib.hid (itemsAt_mono (HIab.out.below hbc) hbc.size)
      have HIbc := Lib.hid (itemsAt_mono (HIb.out.below hbc) hbc.size)
      have HVc := Lib.hid ((HVb.out.below hbc).mono hbc.size)
      have HTc := Lib.hid (HTb.out.later hbc)
      have HBc := Lib.hid (HBb.out.trans (hbc.mono HBb.out.size))
      clear hIc hbc
      go_wp2_with fail
      refine (HRR.out wc HVc.out HTc.out).mono ?_
      rintro e wd ⟨vd, rfl, hId, _, hbd⟩
      dsimp only at hId ⊢
      have HId := Lib.hid hId
      have HIcd := Lib.hid (itemsAt_mono (HIc.out.below hbd) hbd.size)
      have HIad := Lib.hid (itemsAt_mono (HIac.out.below hbd) hbd.size)
      have HIbd := Lib.hid (itemsAt_mono (HIbc.out.below hbd) hbd.size)
      have HVd := Lib.hid ((HVc.out.below hbd).mono hbd.size)
      have HTd := Lib.hid (HTc.out.later hbd)
      have HBd := Lib.hid (HBc.out.trans (hbd.mono HBc.out.size))
      clear hId hbd
      go_wp2_with fail
      refine (same_any va vb _ _ LA wd HIad.out HIbd.out).mono ?_
      rintro e we ⟨rfl, hde⟩
      have hbe := drewN_below hde
      have HIce := Lib.hid (itemsAt_mono (HIcd.out.below hbe) hbe.size)
      have HIde := Lib.hid (itemsAt_mono (HId.out.below hbe) hbe.size)
      have HIae := Lib.hid (itemsAt_mono (HIad.out.below hbe) hbe.size)
      have HVe := Lib.hid ((HVd.out.below hbe).mono hbe.size)
      have HTe := Lib.hid (HTd.out.later hbe)
      have HBe := Lib.hid (HBd.out.trans (hbe.mono HBd.out.size))
      clear hde hbe
      go_wp2_with fail
      refine (same_any vc vd _ _ LC we HIce.out HIde.out).mono ?_
      rintro e wf ⟨rfl, hdf⟩
      have hbf := drewN_below hdf
      have HIaf := Lib.hid (itemsAt_mono (HIae.out.below hbf) hbf.size)
      have HVf := Lib.hid ((HVe.out.below hbf).mono hbf.size)
      have HTf := Lib.hid (HTe.out.later hbf)
      have HBf := Lib.hid (HBe.out.trans (hbf.mono HBe.out.size))
      clear hdf hbf
      have HBwf := Lib.hid (HBw.out.trans (HBf.out.mono HBw.out.size))
      clear HIb HIab HVa HVb HTa HTb HIc HIac HIbc HVc HTc HId HIcd HIad HIbd HVd HTd HIce HIde HIae HVe HTe HBa HBb HBc HBd HBe HRR HIa HKa
      have HKf : Hid (∀ j, j < i → ∃ ka, A = some ka ∧ wf.cell? (ka.add j) = some (.int .u64 (K j))) := Lib.hid (fun j hj => by
        obtain ⟨ka, e, hc⟩ := HKw.out j hj
        exact ⟨ka, e, (HBf.out.cell (cellIn hc)).trans hc⟩)
      by_cases hE : E1 = 0
      · subst hE
        have HLK := Lib.hid (map_look HMR.out (fun l hl => (HF.out l hl).2) HKK.out h12)
        go_wp2_with fail
        go_loopw [17] (fun iv wr => ∃ j : Nat, j ≤ i ∧ iv = .int .i64 j ∧ Below wf.heap.size wf wr) (fun iv _ => i - (intOf iv).toNat)
        case atStart => exact ⟨0, by omega, rfl, Below.refl _ _⟩
        case round =>
          obtain ⟨j, hji, rfl, hbr⟩ := hrel
          have HBr := Lib.hid hbr
          have hsr := hbr.size
          clear hbr
          by_cases hjl : j < i
          · have hjI : (j : Int) < (i : Int) := by omega
            obtain ⟨hnl, hl1000, hlk⟩ := HLK.out
            obtain ⟨rr, hr1, hr2⟩ := hlk j hjl
            obtain ⟨cb, cap2, A6, c6, hve, hvc, hvi⟩ := HVf.out.get (i := j) (by omega)
            cases hve
            obtain ⟨ka, rfl, hkc⟩ := HKf.out j hjl
            have e1 := (HBr.out.cell (cellIn hkc)).trans hkc
            have hlook := (look_both LA va (K j) wr (itemsAt_mono (HIaf.out.below HBr.out) hsr) HCa.out (HTf.out.later HBr.out) hl1000).1
            rw [hr1] at hlook
            have HLO := Lib.hid hlook
            have HR2 := Lib.hid hr2
            have HVC := Lib.hid hvc
            have HVI := Lib.hid hvi
            have hji2 : (j : Int) < ((ys :: rest).length : Int) := by omega
            clear hlook hr1 hr2 hvc hvi hkc hlk hl1000 hnl
            go_wp2_with fail
            refine HLO.out.mono ?_
            rintro e w6 ⟨v6, rfl, hb6, hI6⟩
            rw [HR2.out] at hI6
            have hbb6 := HBr.out.trans (hb6.mono hsr)
            have e6 := (hbb6.cell (cellIn HVC.out)).trans HVC.out
            have e7 := e6
            rw [← addr_at _ j] at e7
            have HI6 := Lib.hid hI6
            have HV6 := Lib.hid (HVI.out.below hbb6)
            have HB6 := Lib.hid hbb6
            clear hb6 hI6 hbb6
            go_wp2_with fail
            refine (same_any v6 _ _ _ ((ys :: rest).getD j []) w6 HI6.out HV6.out).mono ?_
            rintro e w7 ⟨rfl, hd7⟩
            have HB7 := Lib.hid (HB6.out.trans ((drewN_below hd7).mono HB6.out.size))
            clear hd7
            go_wp2
            go_roundw
            case rel =>
              have hfin : ∃ j2 : Nat, j2 ≤ i ∧ Value.int .i64 ((j : Int) + 1) = .int .i64 j2 ∧ Below wf.heap.size wf w7 := ⟨j + 1, by omega, by go_num, HB7.out⟩
              first
                | exact hfin
                | (repeat apply Exists.intro
                   exact ⟨hfin, rfl⟩)
            case measure => (simp [intOf] <;> omega)
          · have hjI : ¬ (j : Int) < (i : Int) := by omega
            have HTr := Lib.hid (HTf.out.later HBr.out)
            go_wp2_with fail
            refine (awake_any _ HTr.out).mono ?_
            rintro e w8 ⟨rfl, hb8⟩
            have HB8 := Lib.hid (HBwf.out.trans ((HBr.out.trans (hb8.mono hsr)).mono HBwf.out.size))
            clear hb8
            go_wp2
            go_ret
            exact ⟨rfl, HB8.out⟩
      · go_wp2_with fail
        go_loopw [17] (fun iv wr => iv = .int .i64 0 ∧ wr = wf) (fun _ _ => 0)
        case atStart => exact ⟨rfl, rfl⟩
        case round =>
          obtain ⟨rfl, rfl⟩ := hrel
          by_cases hpos : 0 < i
          · have hposI : (0 : Int) < (i : Int) := by omega
            go_wp2_with fail
            refine (awake_any _ HTf.out).mono ?_
            rintro e w8 ⟨rfl, hb8⟩
            have HB8 := Lib.hid (HBwf.out.trans (hb8.mono HBwf.out.size))
            clear hb8
            go_wp2
            go_ret
            exact ⟨rfl, HB8.out⟩
          · exact absurd hn0 hpos
end Go.Proofs.YtepinmeidjlmmaaDoor
