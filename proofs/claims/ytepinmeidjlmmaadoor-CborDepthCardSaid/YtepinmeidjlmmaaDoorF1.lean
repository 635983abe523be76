import Derived.Test.YtepinmeidjlmmaaDoorE9
namespace Go.Proofs.YtepinmeidjlmmaaDoor
open Go.RowKit

set_option maxRecDepth 100000 in
set_option maxHeartbeats 2000000 in
theorem walk_map (W2 : Nat → Bool → ByteArray → Nat × Int) (l : List It) (b off cap : Nat) (at_ dep N : Nat) (key : Bool) (bf : ByteArray) (d : ByteArray) (w : World) (h : at_ < l.length) (hlen : l.length ≤ 1000000000000000) (ht : Tabs w) (hd9 : dep ≤ 10) (hb : b < w.heap.size)
    (hcells : ∀ i (h : i < l.length), w.cell? ⟨b, off + i * 3, none⟩ = some (.int .i64 l[i].k) ∧ w.cell? ⟨b, off + i * 3 + 1, none⟩ = some (.int .u64 l[i].n) ∧ w.cell? ⟨b, off + i * 3 + 2, none⟩ = some (.string l[i].d))
    (hpos : ∀ x ∈ l, 0 ≤ x.n)
    (q0 : w.cell? ⟨b, off + at_ * 3, none⟩ = some (.int .i64 6)) (q1 : w.cell? ⟨b, off + at_ * 3 + 1, none⟩ = some (.int .u64 N)) (q2 : w.cell? ⟨b, off + at_ * 3 + 2, none⟩ = some (.string d))
    (hr : checkRE at_ dep key bf 6 N d = 0) (hN : N ≤ 1000)
    (hok : ∀ (a2 : Nat) (b2 : ByteArray), (W2 a2 true b2).2 = 0 → ∃ x, l[a2]? = some x ∧ 1 ≤ x.k ∧ x.k ≤ 8 ∧ (x.k = 7 → x.n ≤ 1) ∧ x.d.size ≤ 1100)
    (hIH : ∀ (W : World) (a2 : Nat) (k2 : Bool) (b2 : ByteArray), Below w.heap.size w W → Calls Tryd.prog 42 #[.slice (some ⟨b, off, none⟩) l.length cap, .int .i64 a2, .int .i64 ((dep : Int) + 1), .bool k2, .string b2] W (WalkPost W (W2 a2 k2 b2))) :
    Calls Tryd.prog 42 #[.slice (some ⟨b, off, none⟩) l.length cap, .int .i64 at_, .int .i64 dep, .bool key, .string bf] w (WalkPost w (loopE W2 l true N (at_ + 1) ⟨#[]⟩)) := by
  have h1 : (at_ : Int) < (l.length : Int) := by omega
  have h2 : (0 : Int) ≤ (at_ : Int) := by omega
  have HB0 := Lib.hid ((Below.refl w.heap.size w).alloc (Nat.le_refl _) (.cells #[.int .i64 6, .int .u64 N, .string d] 58))
  have HK := Lib.hid (fun (W : World) (hW : Below w.heap.size w W) => show Calls Tryd.prog 61 #[itemV 6 N d, .int .i64 at_, .int .i64 dep, .bool key, .string bf] W (CheckPost W 0) by have := checkR_any at_ dep key bf 6 N d W (by omega) (ht.later hW); rwa [hr] at this)
  have HS0 := Lib.hid (BoxS.mk' (heap_new w (.cells #[.int .i64 6, .int .u64 N, .string d] 58)))
  have HIH := Lib.hid hIH
  have HOK := Lib.hid hok
  have HC0 := Lib.hid hcells
  have HPOS := Lib.hid hpos
  clear ht hr hIH hok hcells hpos
  go_enter Tryd.func42, Tryd.ntmps42
  go_wp2_with (go_at_call 61; refine (HK.out _ (by exact HB0.out)).mono ?_; rintro e w1 ⟨rfl, hb1⟩)
  have HS1 := Lib.hid (BoxS.step HS0.out hb1)
  have HB1 := Lib.hid (below_aft HB0.out hb1)
  have hlt1 : w.heap.size < w1.heap.size := by have := hb1.size; simp at this; omega
  have HL1 := Lib.hid hlt1
  clear hb1 hlt1
  go_loopw [14, 15, 16] (fun nx la i wr => ∃ (j a2 : Nat) (lb : ByteArray), j ≤ N ∧ i = .int .u64 j ∧ nx = .int .i64 a2 ∧ la = .string lb ∧ Below w.heap.size w wr ∧ BoxS w.heap.size 6 N d wr ∧ w.heap.size < wr.heap.size ∧ loopE W2 l true (N - j) a2 lb = loopE W2 l true N (at_ + 1) ⟨#[]⟩) (fun _ _ i _ => N - (intOf i).toNat)
  case atStart => exact ⟨0, at_ + 1, _, by omega, rfl, by go_num, rfl, HB1.out, HS1.out, HL1.out, rfl⟩
  case round =>
    obtain ⟨j, a2, lb, hj, rfl, rfl, rfl, hbr, hsr, hlr, hgo⟩ := hrel
    have HBR := Lib.hid hbr
    have HSR := Lib.hid hsr
    have HGO := Lib.hid hgo
    obtain ⟨c1, c2, c3, c4⟩ := hsr
    clear hbr hgo
    by_cases hlt : j < N
    · obtain ⟨N2, hN2⟩ : ∃ N2, N - j = N2 + 1 := ⟨N - j - 1, by omega⟩
      have hstep := HGO.out
      rw [hN2] at hstep
      have HSTEP := Lib.hid hstep
      clear hstep
      have hC := HIH.out wr a2 true lb HBR.out
      have hOK := HOK.out a2 lb
      generalize hres : W2 a2 true lb = res at *
      obtain ⟨a3, e3⟩ := res
      have HC := Lib.hid hC
      clear hC
      by_cases he : e3 = 0
      · subst he
        obtain ⟨x, hx, hx1, hx2, hx3, hx4⟩ := hOK rfl
        have hla : lastAt l a2 = bytesS x.k x.n x.d := by simp [lastAt, hx]
        have ha2 : a2 < l.length := by
          rcases Nat.lt_or_ge a2 l.length with h3 | h3
          · exact h3
          · rw [List.getElem?_eq_none h3] at hx; cases hx
        have hxe : l[a2] = x := by rw [List.getElem?_eq_getElem ha2] at hx; exact Option.some.inj hx
        have hxn : 0 ≤ x.n := HPOS.out x (hxe ▸ List.getElem_mem ha2)
        have hcx := HC0.out a2 ha2
        rw [hxe] at hcx
        obtain ⟨k2, n2, d2⟩ := x
        simp only at hcx hx1 hx2 hx3 hx4 hxn hla
        have HCX := Lib.hid hcx
        have HBY := Lib.hid (fun (W : World) => bytesR_any k2 n2 d2 W hx1 hx2 hxn hx3 hx4)
        have hC2 := fun (W : World) (hW : Below w.heap.size w W) => HIH.out W a3 false ⟨#[]⟩ hW
        generalize hres2 : W2 a3 false ⟨#[]⟩ = res2 at *
        obtain ⟨a4, e4⟩ := res2
        have HC2 := Lib.hid hC2
        have HX := Lib.hid hx
        have HLA := Lib.hid hla
        have h3 : (a2 : Int) < (l.length : Int) := by omega
        have h4 : (0 : Int) ≤ (a2 : Int) := by omega
        clear hC2 hx hcx hxe hOK hx3 hla
        by_cases he2 : e4 = 0
        · subst he2
          go_wp2_with fail
          refine HC.out.mono ?_
          rintro e w3 ⟨rfl, hb3⟩
          obtain ⟨x0, x1, x2⟩ := HCX.out
          have y0 := ((below_aft HBR.out hb3).cell (p := ⟨b, off + a2 * 3, none⟩) hb).trans x0
          have y1 := ((below_aft HBR.out hb3).cell (p := ⟨b, off + a2 * 3 + 1, none⟩) hb).trans x1
          have y2 := ((below_aft HBR.out hb3).cell (p := ⟨b, off + a2 * 3 + 2, none⟩) hb).trans x2
          clear x0 x1 x2
          go_wp2_with fail
          refine (HBY.out _).mono ?_
          rintro e w4 ⟨rfl, hb4⟩
          clear y0 y1 y2
          go_wp2_with fail
          refine (HC2.out _ (below_aft (below_aft HBR.out hb3) hb4)).mono ?_
          rintro e w5 ⟨rfl, hb5⟩
          go_wp2_with fail
          go_roundw
          case rel =>
            have hb6 := below_aft (below_aft (below_aft HBR.out hb3) hb4) hb5
            have hs6 := BoxS.stepB (BoxS.stepB (BoxS.stepB HSR.out hb3 hlr) hb4 (Nat.lt_of_lt_of_le hlr hb3.size)) hb5 (Nat.lt_of_lt_of_le hlr (Nat.le_trans hb3.size hb4.size))
            refine ⟨j + 1, a4, _, by omega, by go_num, rfl, rfl, hb6, hs6, Nat.lt_of_lt_of_le hlr (Nat.le_trans hb3.size (Nat.le_trans hb4.size hb5.size)), ?_⟩
            rw [← HSTEP.out, show N - (j + 1) = N2 from by omega]
            show _ = loopE W2 l true (N2 + 1) a2 lb
            simp [loopE, hres, hres2, HLA.out]
          case measure => simp [intOf]; omega
        · go_wp2_with fail
          refine HC.out.mono ?_
          rintro e w3 ⟨rfl, hb3⟩
          obtain ⟨x0, x1, x2⟩ := HCX.out
          have y0 := ((below_aft HBR.out hb3).cell (p := ⟨b, off + a2 * 3, none⟩) hb).trans x0
          have y1 := ((below_aft HBR.out hb3).cell (p := ⟨b, off + a2 * 3 + 1, none⟩) hb).trans x1
          have y2 := ((below_aft HBR.out hb3).cell (p := ⟨b, off + a2 * 3 + 2, none⟩) hb).trans x2
          clear x0 x1 x2
          go_wp2_with fail
          refine (HBY.out _).mono ?_
          rintro e w4 ⟨rfl, hb4⟩
          clear y0 y1 y2
          go_wp2_with fail
          refine (HC2.out _ (below_aft (below_aft HBR.out hb3) hb4)).mono ?_
          rintro e w5 ⟨rfl, hb5⟩
          go_wp2_with fail
          go_ret2
          refine ⟨?_, below_aft (below_aft (below_aft HBR.out hb3) hb4) hb5⟩
          rw [← HSTEP.out]
          simp [loopE, hres, hres2, he2]
      · clear hOK
        go_wp2_with (go_at_call 42; refine HC.out.mono ?_; rintro e w3 ⟨rfl, hb3⟩)
        go_ret2
        refine ⟨?_, below_aft HBR.out hb3⟩
        rw [← HSTEP.out]
        simp [loopE, hres, he]
    · obtain rfl : j = N := by omega
      go_wp2
      go_ret2
      refine ⟨?_, HBR.out⟩
      rw [← HGO.out]
      simp [loopE]

end Go.Proofs.YtepinmeidjlmmaaDoor
