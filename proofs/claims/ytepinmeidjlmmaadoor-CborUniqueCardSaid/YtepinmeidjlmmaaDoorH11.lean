/- The law CborUnique, walked. -/
import Derived.Test.YtepinmeidjlmmaaDoorH10
import Derived.Test.YtepinmeidjlmmaaDoorB7
namespace Go.Proofs.YtepinmeidjlmmaaDoor
open Go.RowKit
set_option maxRecDepth 100000

theorem Bys.take {w : World} {A : Option Addr} {n : Nat} {zs : List Int} (h : Bys w A n zs) (k : Nat) (hk : k ≤ n) : Bys w A k (zs.take k) := by
  refine ⟨by have := h.len; simp; omega, fun z hz => h.rng z (List.mem_of_mem_take hz), fun i hi => ?_⟩
  obtain ⟨a, e, hc⟩ := h.at_ i (by omega)
  refine ⟨a, e, hc.trans ?_⟩
  simp [List.getD, hi]
theorem own_bys {w : World} {base n : Nat} {v : Value} {zs : List Int} (h : w.ownsRow base 5 1 v n (bv zs)) (hr : ∀ z ∈ zs, 0 ≤ z ∧ z ≤ 255) : ∃ A cap, v = .slice A n cap ∧ Bys w A n zs := by
  have hl : zs.length = n := by have := h.1; rw [bv_len] at this; omega
  rcases h.2 with ⟨hv, h0⟩ | ⟨g, cap, cur, hv, _, _, h1, h2, _⟩
  · subst h0
    exact ⟨none, 0, hv, hl, hr, fun i hi => absurd hi (by omega)⟩
  · refine ⟨_, cap, hv, hl, hr, fun i hi => ⟨_, rfl, ?_⟩⟩
    have := h.cells (g := g) (by rw [hv]; rfl) i (.int .u8 (zs.getD i 0)) (by
      simp only [bv, List.getElem?_map, List.getD]
      rw [List.getElem?_eq_getElem (by omega)]; rfl)
    exact this
theorem items_own {w : World} {base n : Nat} {v : Value} {l : List It} (h : w.ownsRow base 58 3 v n (itCells l)) (hok : ∀ x ∈ l, 0 ≤ x.n ∧ x.d.size ≤ 1024) (hl : l.length ≤ 1000) : ItemsAt w w.heap.size v l := by
  have hn : n = l.length := by have h1 := h.1; rw [itCells_len] at h1; omega
  rcases h.2 with ⟨hv, h0⟩ | ⟨g, cap, cur, hv, _⟩
  · subst hv
    have : l = [] := List.eq_nil_of_length_eq_zero (by omega)
    subst this
    exact ⟨.inl ⟨rfl, rfl⟩, by simp, by simp⟩
  · subst hv
    exact itemsAt_own h (fun x hx => ⟨(hok x hx).1, by have := (hok x hx).2; unfold maxLen; omega⟩) (by omega)

set_option maxHeartbeats 2000000 in
theorem unique_law (A : Option Addr) (N cap : Nat) (zs : List Int) (w : World) (hb : Bys w A N zs) (hc : N ≤ cap) (hcm : cap ≤ 9223372036854775807) (ht : Tabs w) :
    Calls Tryd.prog 7 #[.slice A N cap] w fun e w' => e = .returned (.bool true) ∧ Below w.heap.size w w' := by
  have HB := Lib.hid hb
  have HT := Lib.hid ht
  clear hb ht
  by_cases hlt : 1000 < N
  · go_enter Tryd.func7, Tryd.ntmps7
    go_wp2_with fail
    refine (awake_any _ HT.out).mono ?_
    rintro e w1 ⟨rfl, hb1⟩
    go_wp2
    go_ret
    exact ⟨rfl, hb1⟩
  · have hD := decode_any A N cap zs w HB.out hc hcm (by omega) HT.out
    have HOK := Lib.hid (fun h => decE_ok (zs := zs) (N := N) HB.out.rng HB.out.len h)
    have HER := Lib.hid (fun h => decE_err (zs := zs) (N := N) h)
    unfold DecP at hD
    generalize decE zs N = r at *
    obtain ⟨er, l, u⟩ := r
    dsimp only at hD HOK HER
    have HD := Lib.hid hD
    clear hD
    by_cases he : er = 0
    · subst he
      obtain ⟨hv, hu, henc⟩ := HOK.out rfl
      have HV := Lib.hid hv
      have HE := Lib.hid henc
      clear hv henc
      go_enter Tryd.func7, Tryd.ntmps7
      go_wp2_with fail
      refine HD.out.mono ?_
      rintro e w1 ⟨v1, rfl, ho1, hb1, _, hok, hlen⟩
      have hI := items_own ho1 hok (by omega)
      have HI := Lib.hid hI
      have HB1 := Lib.hid hb1
      obtain ⟨A1, c1, hv1⟩ := own_form ho1
      subst hv1
      clear hI hb1 ho1 hok
      go_wp2_with fail
      refine (encode_good l _ w1 HI.out (HT.out.later HB1.out) HV.out).mono ?_
      rintro e w2 ⟨v2, rfl, ho2, hb2⟩
      rw [HE.out, show (zs.take u).length = u by have := HB.out.len; simp; omega] at ho2
      obtain ⟨A2, c2, hv2, hB2⟩ := own_bys ho2 (fun z hz => HB.out.rng z (List.mem_of_mem_take hz))
      subst hv2
      have HB2 := Lib.hid (HB1.out.trans (hb2.mono HB1.out.size))
      have HC2 := Lib.hid hB2
      have hB0 := (HB.out.take u hu).below HB2.out
      have HC0 := Lib.hid hB0
      clear ho2 hb2 hB2 hB0
      generalize zs.take u = ys at *
      have hu1 : (u : Int) ≤ (N : Int) := by omega
      have hu2 : (u : Int) ≤ (cap : Int) := by omega
      go_wp2_with fail
      refine held_begin (by kernel_rfl) ?_
      refine held_take (i := 0) (v := ?_) rfl rfl (by kernel_rfl) (by kernel_rfl) (by kernel_rfl) (fun _ _ _ h => h) (by rfl) ?_ ?_
      rotate_left
      · intro W hW
        go_simp
        try with_reducible rfl
      simp only [Act.put, List.setIfInBounds_toArray, List.set_cons_zero, List.set_cons_succ]
      refine held_take (i := 1) (v := ?_) rfl rfl (by kernel_rfl) (by kernel_rfl) (by kernel_rfl) (fun _ _ _ h => h) (by rfl) ?_ ?_
      rotate_left
      · intro W hW
        go_simp
        try with_reducible rfl
      simp only [Act.put, List.setIfInBounds_toArray, List.set_cons_zero, List.set_cons_succ]
      refine held_take (i := 2) (v := ?_) rfl rfl (by kernel_rfl) (by kernel_rfl) (by kernel_rfl) (fun _ _ _ h => h) (by rfl) ?_ ?_
      rotate_left
      · intro W hW
        go_simp
        try with_reducible rfl
      simp only [Act.put, List.setIfInBounds_toArray, List.set_cons_zero, List.set_cons_succ]
      refine held_take (i := 3) (v := ?_) rfl rfl (by kernel_rfl) (by kernel_rfl) (by kernel_rfl) (fun _ _ _ h => h) (by rfl) ?_ ?_
      rotate_left
      · intro W hW
        go_simp
        try with_reducible rfl
      simp only [Act.put, List.setIfInBounds_toArray, List.set_cons_zero, List.set_cons_succ]
      refine held_take (i := 4) (v := ?_) rfl rfl (by kernel_rfl) (by kernel_rfl) (by kernel_rfl) (fun _ _ _ h => h) (by rfl) ?_ ?_
      rotate_left
      · intro W hW
        go_simp
        try with_reducible rfl
      simp only [Act.put, List.setIfInBounds_toArray, List.set_cons_zero, List.set_cons_succ]
      refine held_take (i := 5) (v := ?_) rfl rfl (by kernel_rfl) (by kernel_rfl) (by kernel_rfl) (fun _ _ _ h => h) (by rfl) ?_ ?_
      rotate_left
      · intro W hW
        go_simp
        try with_reducible rfl
      simp only [Act.put, List.setIfInBounds_toArray, List.set_cons_zero, List.set_cons_succ]
      refine held_take (i := 6) (v := ?_) rfl rfl (by kernel_rfl) (by kernel_rfl) (by kernel_rfl) (fun _ _ _ h => h) (by rfl) ?_ ?_
      rotate_left
      · intro W hW
        go_simp
        try with_reducible rfl
      simp only [Act.put, List.setIfInBounds_toArray, List.set_cons_zero, List.set_cons_succ]
      refine held_take (i := 7) (v := ?_) rfl rfl (by kernel_rfl) (by kernel_rfl) (by kernel_rfl) (fun _ _ _ h => h) (by rfl) ?_ ?_
      rotate_left
      · intro W hW
        go_simp
        try with_reducible rfl
      simp only [Act.put, List.setIfInBounds_toArray, List.set_cons_zero, List.set_cons_succ]
      refine held_take (i := 8) (v := ?_) rfl rfl (by kernel_rfl) (by kernel_rfl) (by kernel_rfl) (fun _ _ _ h => h) (by rfl) ?_ ?_
      rotate_left
      · intro W hW
        go_simp
        try with_reducible rfl
      simp only [Act.put, List.setIfInBounds_toArray, List.set_cons_zero, List.set_cons_succ]
      refine held_take (i := 9) (v := ?_) rfl rfl (by kernel_rfl) (by kernel_rfl) (by kernel_rfl) (fun _ _ _ h => h) (by rfl) ?_ ?_
      rotate_left
      · intro W hW
        go_simp
        try with_reducible rfl
      simp only [Act.put, List.setIfInBounds_toArray, List.set_cons_zero, List.set_cons_succ]
      refine held_take (i := 10) (v := ?_) rfl rfl (by kernel_rfl) (by kernel_rfl) (by kernel_rfl) (fun _ _ _ h => h) (by rfl) ?_ ?_
      rotate_left
      · intro W hW
        have cv := conv_bys (cap := c2) (HC2.out.below ((⟨rfl, rfl, rfl, Nat.le_refl _, fun _ _ => rfl⟩ : Below w2.heap.size w2 w2.drew).trans hW))
        go_simp
        try with_reducible rfl
      simp only [Act.put, List.setIfInBounds_toArray, List.set_cons_zero, List.set_cons_succ]
      refine held_take (i := 11) (v := ?_) rfl rfl (by kernel_rfl) (by kernel_rfl) (by kernel_rfl) (fun _ _ _ h => h) (by rfl) ?_ ?_
      rotate_left
      · intro W hW
        go_simp
        try with_reducible rfl
      simp only [Act.put, List.setIfInBounds_toArray, List.set_cons_zero, List.set_cons_succ]
      refine held_take (i := 12) (v := ?_) rfl rfl (by kernel_rfl) (by kernel_rfl) (by kernel_rfl) (fun _ _ _ h => h) (by rfl) ?_ ?_
      rotate_left
      · intro W hW
        go_simp
        try with_reducible rfl
      simp only [Act.put, List.setIfInBounds_toArray, List.set_cons_zero, List.set_cons_succ]
      refine held_take (i := 13) (v := ?_) rfl rfl (by kernel_rfl) (by kernel_rfl) (by kernel_rfl) (fun _ _ _ h => h) (by rfl) ?_ ?_
      rotate_left
      · intro W hW
        go_simp
        try with_reducible rfl
      simp only [Act.put, List.setIfInBounds_toArray, List.set_cons_zero, List.set_cons_succ]
      refine held_take (i := 14) (v := ?_) rfl rfl (by kernel_rfl) (by kernel_rfl) (by kernel_rfl) (fun _ _ _ h => h) (by rfl) ?_ ?_
      rotate_left
      · intro W hW
        have cv := conv_bys (cap := cap) (HC0.out.below ((⟨rfl, rfl, rfl, Nat.le_refl _, fun _ _ => rfl⟩ : Below w2.heap.size w2 w2.drew).trans hW))
        go_simp
        try with_reducible rfl
      simp only [Act.put, List.setIfInBounds_toArray, List.set_cons_zero, List.set_cons_succ]
      refine held_take (i := 15) (v := ?_) rfl rfl (by kernel_rfl) (by kernel_rfl) (by kernel_rfl) (fun _ _ _ h => h) (by rfl) ?_ ?_
      rotate_left
      · intro W hW
        go_simp
        try with_reducible rfl
      simp only [Act.put, List.setIfInBounds_toArray, List.set_cons_zero, List.set_cons_succ]
      refine held_take (i := 16) (v := ?_) rfl rfl (by kernel_rfl) (by kernel_rfl) (by kernel_rfl) (fun _ _ _ h => h) (by rfl) ?_ ?_
      rotate_left
      · intro W hW
        go_simp
        try with_reducible rfl
      simp only [Act.put, List.setIfInBounds_toArray, List.set_cons_zero, List.set_cons_succ]
      refine held_take (i := 17) (v := ?_) rfl rfl (by kernel_rfl) (by kernel_rfl) (by kernel_rfl) (fun _ _ _ h => h) (by rfl) ?_ ?_
      rotate_left
      · intro W hW
        go_simp
        try with_reducible rfl
      simp only [Act.put, List.setIfInBounds_toArray, List.set_cons_zero, List.set_cons_succ]
      refine held_call (i := 18) (by kernel_rfl) rfl (fun K' hK => ?_)
      go_simp
      refine (awake_any _ (HT.out.later (HB2.out.trans ((⟨rfl, rfl, rfl, Nat.le_refl _, fun _ _ => rfl⟩ : Below w2.heap.size w2 w2.drew).mono HB2.out.size)))).mono ?_
      rintro e w3 ⟨rfl, hb⟩
      refine hK.out _ _ hb ?_
      clear hK K'
      have HB3 := Lib.hid ((HB2.out.trans ((⟨rfl, rfl, rfl, Nat.le_refl _, fun _ _ => rfl⟩ : Below w2.heap.size w2 w2.drew).mono HB2.out.size)).trans (hb.mono HB2.out.size))
      clear hb
      refine held_take (i := 19) (v := ?_) rfl rfl (by kernel_rfl) (by kernel_rfl) (by kernel_rfl) (fun _ _ _ h => h) (by rfl) ?_ ?_
      rotate_left
      · intro W hW
        go_simp
        try with_reducible rfl
      simp only [Act.put, List.setIfInBounds_toArray, List.set_cons_zero, List.set_cons_succ]
      refine held_take (i := 20) (v := ?_) rfl rfl (by kernel_rfl) (by kernel_rfl) (by kernel_rfl) (fun _ _ _ h => h) (by rfl) ?_ ?_
      rotate_left
      · intro W hW
        go_simp
        try with_reducible rfl
      simp only [Act.put, List.setIfInBounds_toArray, List.set_cons_zero, List.set_cons_succ]
      refine wpAnyH_done (by kernel_rfl) ?_ _
      go_wp2
      go_ret
      exact ⟨rfl, HB3.out⟩
    · obtain ⟨hl, hu⟩ := HER.out he
      subst hl hu
      have hne : (er != 0) = true := by simpa using he
      go_enter Tryd.func7, Tryd.ntmps7
      go_wp2_with fail
      refine HD.out.mono ?_
      rintro e w1 ⟨v1, rfl, ho1, hb1, hnil, _, _⟩
      have hv1 := hnil he
      subst hv1
      have HB1 := Lib.hid hb1
      clear ho1 hb1 hnil
      go_wp2_with fail
      refine (awake_any _ (HT.out.later HB1.out)).mono ?_
      rintro e w3 ⟨rfl, hb3⟩
      go_wp2
      go_ret
      exact ⟨rfl, HB1.out.trans (hb3.mono HB1.out.size)⟩
end Go.Proofs.YtepinmeidjlmmaaDoor
