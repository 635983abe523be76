/- The law CborMaps: no values. -/
import Derived.Test.YtepinmeidjlmmaaDoorME
namespace Go.Proofs.YtepinmeidjlmmaaDoor
open Go.RowKit
set_option maxRecDepth 100000

set_option maxHeartbeats 4000000 in
theorem maps_zero (A R : Option Addr) (kcap M rc : Nat) (l : List Int) (K : Nat → Int) (z : Int) (w : World) (hk : ∀ i, i < 0 → ∃ ka, A = some ka ∧ w.cell? (ka.add i) = some (.int .u64 (K i))) (hK : ∀ i, 0 ≤ K i) 
    (h : Ints w R M l) (_ : M ≤ rc) (hm : rc ≤ 9223372036854775807) (ht : Tabs w)
    (h1 : z % 16 = 1) :
    Calls Tryd.prog 11 #[.slice A 0 kcap, .slice R M rc, .int .i64 z] w fun e w' => e = .returned (.bool true) ∧ Below w.heap.size w w' := by
  have HK := Lib.hid hk
  have HKK := Lib.hid hK
  have HI := Lib.hid h
  have HT := Lib.hid ht
  have HM9 := Lib.hid hm
  have hand : bits .and .i64 z 15 = z % 16 := bits_low 4 (by decide) z
  clear hk hK h ht hm
  have h12 : 0 ≤ 12 := by decide
  go_enter Tryd.func11, Tryd.ntmps11
  go_wp2_with fail
  go_loopw [7, 8] (fun v iv wr => ∃ (i : Nat) (ls : List (List It)), i ≤ 0 ∧ iv = .int .i64 i ∧ ls.length = i ∧ VN wr w.heap.size v ls ∧ (∀ l ∈ ls, Nice l) ∧ Below w.heap.size w wr) (fun _ iv _ => 0 - (intOf iv).toNat)
  case atStart => exact ⟨0, [], by omega, rfl, rfl, VN.nil _ _ (Nat.le_refl _), by simp, Below.refl _ _⟩
  case round =>
    obtain ⟨i, ls, hin, rfl, hli, hV, hL, hb⟩ := hrel
    have HV := Lib.hid hV
    have HL := Lib.hid hL
    have HB := Lib.hid hb
    have HIw := Lib.hid (HI.out.below hb)
    have hsz := hb.size
    have hvo : ∀ g, u7.ownBlock = some g → g < wr.heap.size := by
      obtain ⟨_, vs, ho, _⟩ := hV
      exact fun g hg => (ho.lt g hg).2
    have HVO := Lib.hid hvo
    clear hb hV hL hvo
    by_cases hlt : i < 0
    · exact absurd hlt (by omega)
    · have hni : i = 0 := by omega
      subst hni
      clear hlt hin
      have HKw : Hid (∀ j, j < 0 → ∃ ka, A = some ka ∧ wr.cell? (ka.add j) = some (.int .u64 (K j))) := Lib.hid (fun j hj => by
        obtain ⟨ka, e, hc⟩ := HK.out j hj
        exact ⟨ka, e, (HB.out.cell (cellIn hc)).trans hc⟩)
      have HTw := Lib.hid (HT.out.later HB.out)
      obtain rfl : ls = [] := List.eq_nil_of_length_eq_zero (by omega)
      have HVS := Lib.hid HV.out.vs
      have HF : Hid (∀ l ∈ ([] : List (List It)), Fair l) := Lib.hid fun l hl => (HL.out l hl).fair
      have hlm : ([] : List (List It)).length ≤ 13 := by simp
      have HBw := HB
      clear HVO HIw HV HL hli
      obtain ⟨Av, capv, rfl⟩ := HVS.out.len
      have HM : Hid (∀ l ∈ ([] : List (List It)), l.length ≤ 1000) := Lib.hid fun l hl => Nat.le_trans (HF.out l hl).1 (by decide)
      have HT9 : Hid (total ([] : List (List It)) ≤ 900000) := Lib.hid (by have := total_fair HF.out; have := hlm; omega)
      go_wp2_with fail
      refine (map_any A 0 kcap _ ([] : List (List It)) K wr HKw.out HVS.out HTw.out h12 hlm HKK.out HM.out).mono ?_
      rintro e wa ⟨⟨E1, LA⟩, hMR, va, rfl, hIa, hca, hba⟩
      dsimp only at hIa hca
      have HMR := Lib.hid hMR
      have HIa := Lib.hid hIa
      have HCa := Lib.hid hca
      have HVa := Lib.hid ((HVS.out.below hba).mono hba.size)
      have HTa := Lib.hid (HTw.out.later hba)
      have HBa := Lib.hid hba
      have HKa : Hid (∀ j, j < 0 → ∃ ka, A = some ka ∧ wa.cell? (ka.add j) = some (.int .u64 (K j))) := Lib.hid (fun j hj => by
        obtain ⟨ka, e, hc⟩ := HKw.out j hj
        exact ⟨ka, e, (hba.cell (cellIn hc)).trans hc⟩)
      clear hMR hIa hca hba
      go_wp2_with fail
      refine (mapR_any A 0 kcap _ ([] : List (List It)) K wa HKa.out HVa.out HTa.out h12 hlm HKK.out HM.out).mono ?_
      rintro e wb ⟨r', hMR', vb, rfl, hIb, _, hbb⟩
      obtain rfl := mapR_one hMR' HMR.out
      dsimp only at hIb ⊢
      have HIb := Lib.hid hIb
      have HIab := Lib.hid (itemsAt_mono (HIa.out.below hbb) hbb.size)
      have HVb := Lib.hid ((HVa.out.below hbb).mono hbb.size)
      have HTb := Lib.hid (HTa.out.later hbb)
      have HBb := Lib.hid (HBa.out.trans (hbb.mono HBa.out.size))
      clear hMR' hIb hbb
      go_wp2_with fail
      refine (array_any _ ([] : List (List It)) wb HVb.out HTb.out (by omega) (Nat.le_trans HT9.out (by decide))).mono ?_
      rintro e wc ⟨vc, rfl, hIc, _, hbc⟩
      have HRR : Hid (∀ W', VS W' W'.heap.size (.slice Av ([] : List (List It)).length capv) ([] : List (List It)) → Tabs W' → Calls Tryd.prog 33 #[.slice Av ([] : List (List It)).length capv] W' (ResP (arrayE ([] : List (List It))) W')) := Lib.hid (fun W' h1 h2 => arrayR_any _ ([] : List (List It)) W' h1 h2 (by omega) HT9.out)
      generalize arrayE ([] : List (List It)) = q at *
      obtain ⟨E2, LC⟩ := q
      dsimp only at hIc ⊢
      have HIc := Lib.hid hIc
      have HIac := Lib.hid (itemsAt_mono (HIab.out.below hbc) hbc.size)
      have HIbc := Lib.hid (itemsAt_mono (HIb.out.below hbc) hbc.size)
      have HVc := Lib.hid ((HVb.out.below hbc).mono hbc.size)
      have HTc := Lib.hid (HTb.out.later hbc)
      have HBc := Lib.hid (HBb.out.trans (hbc.mono HBb.out.size))
      clear hIc hbc
      go_wp2_with fail
      refine (HRR.out wc HVc.out HTc.out).mono ?_
      rintro e wd ⟨vd, rfl, hId, _, hbd⟩
      dsimp only at hId ⊢
      have HId := Lib.hid hId
      have HIcd := Lib.hid (itemsAt_mono (HIc.out.below hbd) hbd.size)
      have HIad := Lib.hid (itemsAt_mono (HIac.out.below hbd) hbd.size)
      have HIbd := Lib.hid (itemsAt_mono (HIbc.out.below hbd) hbd.size)
      have HVd := Lib.hid ((HVc.out.below hbd).mono hbd.size)
      have HTd := Lib.hid (HTc.out.later hbd)
      have HBd := Lib.hid (HBc.out.trans (hbd.mono HBc.out.size))
      clear hId hbd
      go_wp2_with fail
      refine (same_any va vb _ _ LA wd HIad.out HIbd.out).mono ?_
      rintro e we ⟨rfl, hde⟩
      have hbe := drewN_below hde
      have HIce := Lib.hid (itemsAt_mono (HIcd.out.below hbe) hbe.size)
      have HIde := Lib.hid (itemsAt_mono (HId.out.below hbe) hbe.size)
      have HIae := Lib.hid (itemsAt_mono (HIad.out.below hbe) hbe.size)
      have HVe := Lib.hid ((HVd.out.below hbe).mono hbe.size)
      have HTe := Lib.hid (HTd.out.later hbe)
      have HBe := Lib.hid (HBd.out.trans (hbe.mono HBd.out.size))
      clear hde hbe
      go_wp2_with fail
      refine (same_any vc vd _ _ LC we HIce.out HIde.out).mono ?_
      rintro e wf ⟨rfl, hdf⟩
      have hbf := drewN_below hdf
      have HIaf := Lib.hid (itemsAt_mono (HIae.out.below hbf) hbf.size)
      have HVf := Lib.hid ((HVe.out.below hbf).mono hbf.size)
      have HTf := Lib.hid (HTe.out.later hbf)
      have HBf := Lib.hid (HBe.out.trans (hbf.mono HBe.out.size))
      clear hdf hbf
      have HBwf := Lib.hid (HBw.out.trans (HBf.out.mono HBw.out.size))
      clear HIb HIab HVa HVb HTa HTb HIc HIac HIbc HVc HTc HId HIcd HIad HIbd HVd HTd HIce HIde HIae HVe HTe HBa HBb HBc HBd HBe HRR HIa HKa
      have HKf : Hid (∀ j, j < 0 → ∃ ka, A = some ka ∧ wf.cell? (ka.add j) = some (.int .u64 (K j))) := Lib.hid (fun j hj => by
        obtain ⟨ka, e, hc⟩ := HKw.out j hj
        exact ⟨ka, e, (HBf.out.cell (cellIn hc)).trans hc⟩)
      by_cases hE : E1 = 0
      · subst hE
        have HLK := Lib.hid (map_look HMR.out (fun l hl => (HF.out l hl).2) HKK.out h12)
        go_wp2_with fail
        go_loopw [17] (fun iv wr => ∃ j : Nat, j ≤ 0 ∧ iv = .int .i64 j ∧ Below wf.heap.size wf wr) (fun iv _ => 0 - (intOf iv).toNat)
        case atStart => exact ⟨0, by omega, rfl, Below.refl _ _⟩
        case round =>
          obtain ⟨j, hji, rfl, hbr⟩ := hrel
          have HBr := Lib.hid hbr
          have hsr := hbr.size
          clear hbr
          by_cases hjl : j < 0
          · exact absurd hjl (by omega)
          · have hjI : ¬ (j : Int) < (0 : Int) := by omega
            have HTr := Lib.hid (HTf.out.later HBr.out)
            go_wp2_with fail
            refine (awake_any _ HTr.out).mono ?_
            rintro e w8 ⟨rfl, hb8⟩
            have HB8 := Lib.hid (HBwf.out.trans ((HBr.out.trans (hb8.mono hsr)).mono HBwf.out.size))
            clear hb8
            go_wp2
            go_ret
            exact ⟨rfl, HB8.out⟩
      · go_wp2_with fail
        go_loopw [17] (fun iv wr => iv = .int .i64 0 ∧ wr = wf) (fun _ _ => 0)
        case atStart => exact ⟨rfl, rfl⟩
        case round =>
          obtain ⟨rfl, rfl⟩ := hrel
          go_wp2_with fail
          refine (awake_any _ HTf.out).mono ?_
          rintro e w8 ⟨rfl, hb8⟩
          have HB8 := Lib.hid (HBwf.out.trans (hb8.mono HBwf.out.size))
          clear hb8
          go_wp2
          go_ret
          exact ⟨rfl, HB8.out⟩
end Go.Proofs.YtepinmeidjlmmaaDoor
