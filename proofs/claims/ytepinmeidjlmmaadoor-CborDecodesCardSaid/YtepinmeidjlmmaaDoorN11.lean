/- Joined: H10, H11, G1, T1, T2, T3, T4. -/
import Derived.Test.YtepinmeidjlmmaaDoorN10
import Derived.Test.YtepinmeidjlmmaaDoorN4
import Derived.Test.YtepinmeidjlmmaaDoorN8
import Derived.Test.YtepinmeidjlmmaaDoorN3
import Derived.Deep.QuietTactic
/- Decode's items are valid, and their encoding is what was read: plain. -/
namespace Go.Proofs.YtepinmeidjlmmaaDoor
open Go.RowKit
set_option maxRecDepth 100000

theorem dataI_str (ys : List Int) (hr : ∀ z ∈ ys, 0 ≤ z ∧ z ≤ 255) : dataI (strOfNums ys) = ys := by
  unfold dataI strOfNums
  simp only [List.map_map]
  refine (List.map_congr_left (g := id) fun z hz => ?_).trans (List.map_id _)
  have := hr z hz
  simp only [Function.comp, id]
  rw [UInt8.toNat_ofNat']
  omega

theorem item_enc {zs : List Int} {N c : Nat} {s : List Lv} {a : Nat} (hr : ∀ z ∈ zs, 0 ≤ z ∧ z ≤ 255) (hl : zs.length = N) {x : It} {a3 : Nat} (h : itemE zs N c s a = (0, x, a3)) :
    encItem x.k x.n x.d = (zs.drop a).take (a3 - a) := by
  unfold itemE at h
  obtain ⟨k, n, er, a2, hh⟩ : ∃ k n er a2, headE zs N a = (k, n, er, a2) := ⟨_, _, _, _, rfl⟩
  rw [hh] at h
  unfold bodyE at h
  dsimp only at h
  by_cases he : er = 0
  · subst he
    rw [if_neg (by simp)] at h
    obtain ⟨k1, k8, n0, n64, h7, h8, hlt, hle⟩ := head_ok hr hl hh
    have henc := head_enc hr hl hh
    by_cases hp : placeE c s k = 0
    · rw [if_neg (by simp [hp])] at h
      by_cases hL : tooLargeB k n = true
      · rw [if_pos hL] at h; simp at h
      rw [if_neg hL] at h
      have hL' : tooLargeB k n = false := by simpa using hL
      by_cases hD : hasDataB k = true
      · rw [if_pos hD] at h
        by_cases hs : (N : Int) < a2 + n
        · rw [if_pos hs] at h; simp at h
        rw [if_neg hs] at h
        have hn1 := data_le hL' hD
        obtain ⟨nn, rfl⟩ := Int.eq_ofNat_of_zero_le n0
        rw [Int.toNat_natCast] at h
        by_cases hE : contentE s k 0 (strOfNums ((zs.drop a2).take nn)) = 0
        · rw [if_neg (by simp [hE])] at h
          simp only [Prod.mk.injEq, true_and] at h
          obtain ⟨rfl, rfl⟩ := h
          have h34 : k = 3 ∨ k = 4 := by unfold hasDataB at hD; simpa using hD
          have harg : argN k 0 (strOfNums ((zs.drop a2).take nn)) = nn := by
            unfold argN; rw [if_pos hD, strOfNums_size]; simp; omega
          show encItem k 0 (strOfNums ((zs.drop a2).take nn)) = _
          rw [encItemP (by omega), harg, dataI_str _ (fun z hz => hr z (List.mem_of_mem_drop (List.mem_of_mem_take hz)))]
          rcases henc with ⟨_, h1⟩ | ⟨h1, _⟩ | ⟨h1, _⟩
          · rw [h1, stretch_app (zs := zs) (a := a) (b := a2) (c := a2 + nn) (by omega) (by omega), show a2 + nn - a2 = nn by omega]
          · omega
          · omega
        · rw [if_pos hE] at h
          simp only [Prod.mk.injEq] at h
          exact absurd h.1 hE
      · rw [if_neg hD] at h
        have hD' : hasDataB k = false := by simpa using hD
        by_cases hE : contentE s k n ⟨#[]⟩ = 0
        · rw [if_neg (by simp [hE])] at h
          simp only [Prod.mk.injEq, true_and] at h
          obtain ⟨rfl, rfl⟩ := h
          have harg : argN k n ⟨#[]⟩ = n := by unfold argN; rw [if_neg hD]
          rcases henc with ⟨h6, h1⟩ | ⟨rfl, h1⟩ | ⟨rfl, h1⟩
          · rw [encItemP h6, harg, h1]
            show _ ++ dataI ⟨#[]⟩ = _
            simp [dataI]
          · rw [encItem7]; exact h1
          · rw [encItem8]; exact h1
        · rw [if_pos hE] at h
          simp only [Prod.mk.injEq] at h
          exact absurd h.1 hE
    · rw [if_pos hp] at h
      simp only [Prod.mk.injEq] at h
      exact absurd h.1 hp
  · rw [if_pos he] at h
    simp only [Prod.mk.injEq] at h
    exact absurd h.1 he

theorem decGo_ok {zs : List Int} {N : Nat} (hr : ∀ z ∈ zs, 0 ≤ z ∧ z ≤ 255) (hl : zs.length = N) : ∀ (f c : Nat) (s : List Lv) (a : Nat) (xs l : List It) (u : Nat), a ≤ N → decGo zs N f c s a xs = (0, l, u) →
    ∃ ys, l = xs ++ ys ∧ validGo c s ys = 0 ∧ a ≤ u ∧ u ≤ N ∧ encAll ys = (zs.drop a).take (u - a)
  | 0, c, s, a, xs, l, u, ha, h => by simp [decGo] at h
  | f + 1, c, s, a, xs, l, u, ha, h => by
    by_cases hc : compB c s = true
    · rw [decGo_done hc] at h
      simp only [Prod.mk.injEq, true_and] at h
      obtain ⟨rfl, rfl⟩ := h
      exact ⟨[], by simp, by rw [validGo_nil, if_pos hc], Nat.le_refl _, ha, by simp [encAll]⟩
    · have hc' : compB c s = false := by simpa using hc
      obtain ⟨er, x, a3, hi⟩ : ∃ er x a3, itemE zs N c s a = (er, x, a3) := ⟨_, _, _, rfl⟩
      by_cases he : er = 0
      · subst he
        rw [decGo_next hc' hi] at h
        obtain ⟨hck, _, hlt, hle⟩ := item_ok hr hl hc' hi
        obtain ⟨ys, rfl, hv, h1, h2, h3⟩ := decGo_ok hr hl f _ _ _ _ _ _ hle h
        refine ⟨x :: ys, by simp, by rw [validGo_yes hck]; exact hv, by omega, h2, ?_⟩
        rw [stretch_app (zs := zs) (a := a) (b := a3) (c := u) (by omega) h1, ← item_enc hr hl hi, ← h3]
        simp [encAll]
      · rw [decGo_bad hc' hi he] at h
        simp only [Prod.mk.injEq] at h
        exact absurd h.1 he
theorem decGo_err {zs : List Int} {N : Nat} : ∀ (f c : Nat) (s : List Lv) (a : Nat) (xs : List It), (decGo zs N f c s a xs).1 ≠ 0 → (decGo zs N f c s a xs).2 = ([], 0)
  | 0, c, s, a, xs, _ => rfl
  | f + 1, c, s, a, xs, h => by
    by_cases hc : compB c s = true
    · rw [decGo_done hc] at h; exact absurd rfl h
    · have hc' : compB c s = false := by simpa using hc
      obtain ⟨er, x, a3, hi⟩ : ∃ er x a3, itemE zs N c s a = (er, x, a3) := ⟨_, _, _, rfl⟩
      by_cases he : er = 0
      · subst he
        rw [decGo_next hc' hi] at h ⊢
        exact decGo_err f _ _ _ _ h
      · rw [decGo_bad hc' hi he]

/-- what is read is valid, and it is the encoding -/
theorem decE_ok {zs : List Int} {N : Nat} (hr : ∀ z ∈ zs, 0 ≤ z ∧ z ≤ 255) (hl : zs.length = N) (h : (decE zs N).1 = 0) :
    validE (decE zs N).2.1 = 0 ∧ (decE zs N).2.2 ≤ N ∧ encAll (decE zs N).2.1 = zs.take (decE zs N).2.2 := by
  obtain ⟨ys, h1, h2, _, h4, h5⟩ := decGo_ok hr hl 600 0 [] 0 [] (decE zs N).2.1 (decE zs N).2.2 (Nat.zero_le _) (by rw [← h]; rfl)
  rw [List.nil_append] at h1
  rw [h1]
  refine ⟨h2, h4, ?_⟩
  rw [h5]
  simp
theorem decE_err {zs : List Int} {N : Nat} (h : (decE zs N).1 ≠ 0) : (decE zs N).2.1 = [] ∧ (decE zs N).2.2 = 0 := by
  have := decGo_err (zs := zs) (N := N) 600 0 [] 0 [] h
  exact ⟨congrArg Prod.fst this, congrArg Prod.snd this⟩
end Go.Proofs.YtepinmeidjlmmaaDoor

/- The law CborUnique, walked. -/
namespace Go.Proofs.YtepinmeidjlmmaaDoor
open Go.RowKit
set_option maxRecDepth 100000

theorem Bys.take {w : World} {A : Option Addr} {n : Nat} {zs : List Int} (h : Bys w A n zs) (k : Nat) (hk : k ≤ n) : Bys w A k (zs.take k) := by
  refine ⟨by have := h.len; simp; omega, fun z hz => h.rng z (List.mem_of_mem_take hz), fun i hi => ?_⟩
  obtain ⟨a, e, hc⟩ := h.at_ i (by omega)
  refine ⟨a, e, hc.trans ?_⟩
  simp [List.getD, hi]
theorem own_bys {w : World} {base n : Nat} {v : Value} {zs : List Int} (h : w.ownsRow base 5 1 v n (bv zs)) (hr : ∀ z ∈ zs, 0 ≤ z ∧ z ≤ 255) : ∃ A cap, v = .slice A n cap ∧ Bys w A n zs := by
  have hl : zs.length = n := by have := h.1; rw [bv_len] at this; omega
  rcases h.2 with ⟨hv, h0⟩ | ⟨g, cap, cur, hv, _, _, h1, h2, _⟩
  · subst h0
    exact ⟨none, 0, hv, hl, hr, fun i hi => absurd hi (by omega)⟩
  · refine ⟨_, cap, hv, hl, hr, fun i hi => ⟨_, rfl, ?_⟩⟩
    have := h.cells (g := g) (by rw [hv]; rfl) i (.int .u8 (zs.getD i 0)) (by
      simp only [bv, List.getElem?_map, List.getD]
      rw [List.getElem?_eq_getElem (by omega)]; rfl)
    exact this
theorem items_own {w : World} {base n : Nat} {v : Value} {l : List It} (h : w.ownsRow base 58 3 v n (itCells l)) (hok : ∀ x ∈ l, 0 ≤ x.n ∧ x.d.size ≤ 1024) (hl : l.length ≤ 1000) : ItemsAt w w.heap.size v l := by
  have hn : n = l.length := by have h1 := h.1; rw [itCells_len] at h1; omega
  rcases h.2 with ⟨hv, h0⟩ | ⟨g, cap, cur, hv, _⟩
  · subst hv
    have : l = [] := List.eq_nil_of_length_eq_zero (by omega)
    subst this
    exact ⟨.inl ⟨rfl, rfl⟩, by simp, by simp⟩
  · subst hv
    exact itemsAt_own h (fun x hx => ⟨(hok x hx).1, by have := (hok x hx).2; unfold maxLen; omega⟩) (by omega)

set_option maxHeartbeats 2000000 in
theorem unique_law (A : Option Addr) (N cap : Nat) (zs : List Int) (w : World) (hb : Bys w A N zs) (hc : N ≤ cap) (hcm : cap ≤ 9223372036854775807) (ht : Tabs w) :
    Calls Tryd.prog 7 #[.slice A N cap] w fun e w' => e = .returned (.bool true) ∧ Below w.heap.size w w' := by
  have HB := Lib.hid hb
  have HT := Lib.hid ht
  clear hb ht
  by_cases hlt : 1000 < N
  · go_enter Tryd.func7, Tryd.ntmps7
    go_wp2_with fail
    refine (awake_any _ HT.out).mono ?_
    rintro e w1 ⟨rfl, hb1⟩
    go_wp2
    go_ret
    exact ⟨rfl, hb1⟩
  · have hD := decode_any A N cap zs w HB.out hc hcm (by omega) HT.out
    have HOK := Lib.hid (fun h => decE_ok (zs := zs) (N := N) HB.out.rng HB.out.len h)
    have HER := Lib.hid (fun h => decE_err (zs := zs) (N := N) h)
    unfold DecP at hD
    generalize decE zs N = r at *
    obtain ⟨er, l, u⟩ := r
    dsimp only at hD HOK HER
    have HD := Lib.hid hD
    clear hD
    by_cases he : er = 0
    · subst he
      obtain ⟨hv, hu, henc⟩ := HOK.out rfl
      have HV := Lib.hid hv
      have HE := Lib.hid henc
      clear hv henc
      go_enter Tryd.func7, Tryd.ntmps7
      go_wp2_with fail
      refine HD.out.mono ?_
      rintro e w1 ⟨v1, rfl, ho1, hb1, _, hok, hlen⟩
      have hI := items_own ho1 hok (by omega)
      have HI := Lib.hid hI
      have HB1 := Lib.hid hb1
      obtain ⟨A1, c1, hv1⟩ := own_form ho1
      subst hv1
      clear hI hb1 ho1 hok
      go_wp2_with fail
      refine (encode_good l _ w1 HI.out (HT.out.later HB1.out) HV.out).mono ?_
      rintro e w2 ⟨v2, rfl, ho2, hb2⟩
      rw [HE.out, show (zs.take u).length = u by have := HB.out.len; simp; omega] at ho2
      obtain ⟨A2, c2, hv2, hB2⟩ := own_bys ho2 (fun z hz => HB.out.rng z (List.mem_of_mem_take hz))
      subst hv2
      have HB2 := Lib.hid (HB1.out.trans (hb2.mono HB1.out.size))
      have HC2 := Lib.hid hB2
      have hB0 := (HB.out.take u hu).below HB2.out
      have HC0 := Lib.hid hB0
      clear ho2 hb2 hB2 hB0
      generalize zs.take u = ys at *
      have hu1 : (u : Int) ≤ (N : Int) := by omega
      have hu2 : (u : Int) ≤ (cap : Int) := by omega
      go_wp2_with fail
      refine held_begin (by kernel_rfl) ?_
      refine held_take (i := 0) (v := ?_) rfl rfl (by kernel_rfl) (by kernel_rfl) (by kernel_rfl) (fun _ _ _ h => h) (by rfl) ?_ ?_
      rotate_left
      · intro W hW
        go_simp
        try with_reducible rfl
      simp only [Act.put, List.setIfInBounds_toArray, List.set_cons_zero, List.set_cons_succ]
      refine held_take (i := 1) (v := ?_) rfl rfl (by kernel_rfl) (by kernel_rfl) (by kernel_rfl) (fun _ _ _ h => h) (by rfl) ?_ ?_
      rotate_left
      · intro W hW
        go_simp
        try with_reducible rfl
      simp only [Act.put, List.setIfInBounds_toArray, List.set_cons_zero, List.set_cons_succ]
      refine held_take (i := 2) (v := ?_) rfl rfl (by kernel_rfl) (by kernel_rfl) (by kernel_rfl) (fun _ _ _ h => h) (by rfl) ?_ ?_
      rotate_left
      · intro W hW
        go_simp
        try with_reducible rfl
      simp only [Act.put, List.setIfInBounds_toArray, List.set_cons_zero, List.set_cons_succ]
      refine held_take (i := 3) (v := ?_) rfl rfl (by kernel_rfl) (by kernel_rfl) (by kernel_rfl) (fun _ _ _ h => h) (by rfl) ?_ ?_
      rotate_left
      · intro W hW
        go_simp
        try with_reducible rfl
      simp only [Act.put, List.setIfInBounds_toArray, List.set_cons_zero, List.set_cons_succ]
      refine held_take (i := 4) (v := ?_) rfl rfl (by kernel_rfl) (by kernel_rfl) (by kernel_rfl) (fun _ _ _ h => h) (by rfl) ?_ ?_
      rotate_left
      · intro W hW
        go_simp
        try with_reducible rfl
      simp only [Act.put, List.setIfInBounds_toArray, List.set_cons_zero, List.set_cons_succ]
      refine held_take (i := 5) (v := ?_) rfl rfl (by kernel_rfl) (by kernel_rfl) (by kernel_rfl) (fun _ _ _ h => h) (by rfl) ?_ ?_
      rotate_left
      · intro W hW
        go_simp
        try with_reducible rfl
      simp only [Act.put, List.setIfInBounds_toArray, List.set_cons_zero, List.set_cons_succ]
      refine held_take (i := 6) (v := ?_) rfl rfl (by kernel_rfl) (by kernel_rfl) (by kernel_rfl) (fun _ _ _ h => h) (by rfl) ?_ ?_
      rotate_left
      · intro W hW
        go_simp
        try with_reducible rfl
      simp only [Act.put, List.setIfInBounds_toArray, List.set_cons_zero, List.set_cons_succ]
      refine held_take (i := 7) (v := ?_) rfl rfl (by kernel_rfl) (by kernel_rfl) (by kernel_rfl) (fun _ _ _ h => h) (by rfl) ?_ ?_
      rotate_left
      · intro W hW
        go_simp
        try with_reducible rfl
      simp only [Act.put, List.setIfInBounds_toArray, List.set_cons_zero, List.set_cons_succ]
      refine held_take (i := 8) (v := ?_) rfl rfl (by kernel_rfl) (by kernel_rfl) (by kernel_rfl) (fun _ _ _ h => h) (by rfl) ?_ ?_
      rotate_left
      · intro W hW
        go_simp
        try with_reducible rfl
      simp only [Act.put, List.setIfInBounds_toArray, List.set_cons_zero, List.set_cons_succ]
      refine held_take (i := 9) (v := ?_) rfl rfl (by kernel_rfl) (by kernel_rfl) (by kernel_rfl) (fun _ _ _ h => h) (by rfl) ?_ ?_
      rotate_left
      · intro W hW
        go_simp
        try with_reducible rfl
      simp only [Act.put, List.setIfInBounds_toArray, List.set_cons_zero, List.set_cons_succ]
      refine held_take (i := 10) (v := ?_) rfl rfl (by kernel_rfl) (by kernel_rfl) (by kernel_rfl) (fun _ _ _ h => h) (by rfl) ?_ ?_
      rotate_left
      · intro W hW
        have cv := conv_bys (cap := c2) (HC2.out.below ((⟨rfl, rfl, rfl, Nat.le_refl _, fun _ _ => rfl⟩ : Below w2.heap.size w2 w2.drew).trans hW))
        go_simp
        try with_reducible rfl
      simp only [Act.put, List.setIfInBounds_toArray, List.set_cons_zero, List.set_cons_succ]
      refine held_take (i := 11) (v := ?_) rfl rfl (by kernel_rfl) (by kernel_rfl) (by kernel_rfl) (fun _ _ _ h => h) (by rfl) ?_ ?_
      rotate_left
      · intro W hW
        go_simp
        try with_reducible rfl
      simp only [Act.put, List.setIfInBounds_toArray, List.set_cons_zero, List.set_cons_succ]
      refine held_take (i := 12) (v := ?_) rfl rfl (by kernel_rfl) (by kernel_rfl) (by kernel_rfl) (fun _ _ _ h => h) (by rfl) ?_ ?_
      rotate_left
      · intro W hW
        go_simp
        try with_reducible rfl
      simp only [Act.put, List.setIfInBounds_toArray, List.set_cons_zero, List.set_cons_succ]
      refine held_take (i := 13) (v := ?_) rfl rfl (by kernel_rfl) (by kernel_rfl) (by kernel_rfl) (fun _ _ _ h => h) (by rfl) ?_ ?_
      rotate_left
      · intro W hW
        go_simp
        try with_reducible rfl
      simp only [Act.put, List.setIfInBounds_toArray, List.set_cons_zero, List.set_cons_succ]
      refine held_take (i := 14) (v := ?_) rfl rfl (by kernel_rfl) (by kernel_rfl) (by kernel_rfl) (fun _ _ _ h => h) (by rfl) ?_ ?_
      rotate_left
      · intro W hW
        have cv := conv_bys (cap := cap) (HC0.out.below ((⟨rfl, rfl, rfl, Nat.le_refl _, fun _ _ => rfl⟩ : Below w2.heap.size w2 w2.drew).trans hW))
        go_simp
        try with_reducible rfl
      simp only [Act.put, List.setIfInBounds_toArray, List.set_cons_zero, List.set_cons_succ]
      refine held_take (i := 15) (v := ?_) rfl rfl (by kernel_rfl) (by kernel_rfl) (by kernel_rfl) (fun _ _ _ h => h) (by rfl) ?_ ?_
      rotate_left
      · intro W hW
        go_simp
        try with_reducible rfl
      simp only [Act.put, List.setIfInBounds_toArray, List.set_cons_zero, List.set_cons_succ]
      refine held_take (i := 16) (v := ?_) rfl rfl (by kernel_rfl) (by kernel_rfl) (by kernel_rfl) (fun _ _ _ h => h) (by rfl) ?_ ?_
      rotate_left
      · intro W hW
        go_simp
        try with_reducible rfl
      simp only [Act.put, List.setIfInBounds_toArray, List.set_cons_zero, List.set_cons_succ]
      refine held_take (i := 17) (v := ?_) rfl rfl (by kernel_rfl) (by kernel_rfl) (by kernel_rfl) (fun _ _ _ h => h) (by rfl) ?_ ?_
      rotate_left
      · intro W hW
        go_simp
        try with_reducible rfl
      simp only [Act.put, List.setIfInBounds_toArray, List.set_cons_zero, List.set_cons_succ]
      refine held_call (i := 18) (by kernel_rfl) rfl (fun K' hK => ?_)
      go_simp
      refine (awake_any _ (HT.out.later (HB2.out.trans ((⟨rfl, rfl, rfl, Nat.le_refl _, fun _ _ => rfl⟩ : Below w2.heap.size w2 w2.drew).mono HB2.out.size)))).mono ?_
      rintro e w3 ⟨rfl, hb⟩
      refine hK.out _ _ hb ?_
      clear hK K'
      have HB3 := Lib.hid ((HB2.out.trans ((⟨rfl, rfl, rfl, Nat.le_refl _, fun _ _ => rfl⟩ : Below w2.heap.size w2 w2.drew).mono HB2.out.size)).trans (hb.mono HB2.out.size))
      clear hb
      refine held_take (i := 19) (v := ?_) rfl rfl (by kernel_rfl) (by kernel_rfl) (by kernel_rfl) (fun _ _ _ h => h) (by rfl) ?_ ?_
      rotate_left
      · intro W hW
        go_simp
        try with_reducible rfl
      simp only [Act.put, List.setIfInBounds_toArray, List.set_cons_zero, List.set_cons_succ]
      refine held_take (i := 20) (v := ?_) rfl rfl (by kernel_rfl) (by kernel_rfl) (by kernel_rfl) (fun _ _ _ h => h) (by rfl) ?_ ?_
      rotate_left
      · intro W hW
        go_simp
        try with_reducible rfl
      simp only [Act.put, List.setIfInBounds_toArray, List.set_cons_zero, List.set_cons_succ]
      refine wpAnyH_done (by kernel_rfl) ?_ _
      go_wp2
      go_ret
      exact ⟨rfl, HB3.out⟩
    · obtain ⟨hl, hu⟩ := HER.out he
      subst hl hu
      have hne : (er != 0) = true := by simpa using he
      go_enter Tryd.func7, Tryd.ntmps7
      go_wp2_with fail
      refine HD.out.mono ?_
      rintro e w1 ⟨v1, rfl, ho1, hb1, hnil, _, _⟩
      have hv1 := hnil he
      subst hv1
      have HB1 := Lib.hid hb1
      clear ho1 hb1 hnil
      go_wp2_with fail
      refine (awake_any _ (HT.out.later HB1.out)).mono ?_
      rintro e w3 ⟨rfl, hb3⟩
      go_wp2
      go_ret
      exact ⟨rfl, HB1.out.trans (hb3.mono HB1.out.size)⟩
end Go.Proofs.YtepinmeidjlmmaaDoor

namespace Go.Proofs.YtepinmeidjlmmaaDoor
open Go.RowKit

def deepL (j : Nat) : List It := List.replicate j ⟨5, 1, ⟨#[]⟩⟩
def wideL (k j : Nat) : List It := ⟨5, k, ⟨#[]⟩⟩ :: List.replicate j ⟨8, 0, ⟨#[]⟩⟩
theorem deepL_succ (j : Nat) : deepL (j + 1) = deepL j ++ [⟨5, 1, ⟨#[]⟩⟩] := by rw [deepL, List.replicate_succ']; rfl
theorem wideL_succ (k j : Nat) : wideL k (j + 1) = wideL k j ++ [⟨8, 0, ⟨#[]⟩⟩] := by rw [wideL, List.replicate_succ']; rfl

theorem lit_items (w : World) (k n : Int) (hn : 0 ≤ n) : ItemsAt (w.alloc (.cells #[.int .i64 k, .int .u64 n, .string ⟨#[]⟩] 58)) (w.heap.size + 1) (.slice (some ⟨w.heap.size, 0, none⟩) 1 1) [⟨k, n, ⟨#[]⟩⟩] :=
  itemsAt_one (Nat.lt_succ_self _) (heap_new w _) hn (Nat.zero_le _)

theorem below_lit {w wr w2 : World} {o : Obj} (h1 : Below w.heap.size w wr) (h2 : Below w.heap.size (wr.alloc o) w2) : Below w.heap.size w w2 := (h1.alloc h1.size _).trans h2

theorem deep_all : ((List.range 12).all fun J => decide (J ≤ 8) == (validE (deepL J ++ [⟨8, 0, ⟨#[]⟩⟩]) == 0)) = true := by decide +kernel
theorem wide_all : ((List.range 20).all fun K => decide (500 + K < 512) == (validE (wideL (500 + K) (500 + K)) == 0)) = true := by decide +kernel
theorem deep_is {J : Nat} (h : J < 12) : (J ≤ 8) ↔ validE (deepL J ++ [⟨8, 0, ⟨#[]⟩⟩]) = 0 := by
  have e : decide (J ≤ 8) = (validE (deepL J ++ [⟨8, 0, ⟨#[]⟩⟩]) == 0) := by simpa using List.all_eq_true.1 deep_all J (List.mem_range.2 h)
  rw [← decide_eq_true_iff (p := J ≤ 8), e, beq_iff_eq]
theorem wide_is {K : Nat} (h0 : 500 ≤ K) (h : K < 520) : (K < 512) ↔ validE (wideL K K) = 0 := by
  have := List.all_eq_true.1 wide_all (K - 500) (List.mem_range.2 (by omega))
  rw [show 500 + (K - 500) = K from by omega] at this
  have e : decide (K < 512) = (validE (wideL K K) == 0) := by simpa using this
  rw [← decide_eq_true_iff (p := K < 512), e, beq_iff_eq]

end Go.Proofs.YtepinmeidjlmmaaDoor

/- Numbers for a tree: At and Text. -/
namespace Go.Proofs.YtepinmeidjlmmaaDoor
open Go.RowKit
set_option maxRecDepth 100000

theorem bits_low (i : Nat) (hi : i ≤ 62) (x : Int) : bits .and .i64 x (2 ^ i - 1) = x % 2 ^ i := by
  have hpos : 0 < 2 ^ i := Nat.two_pow_pos i
  have hle : 2 ^ i ≤ 2 ^ 62 := Nat.pow_le_pow_right (by decide) hi
  obtain ⟨a, ha⟩ := Int.eq_ofNat_of_zero_le (Int.emod_nonneg x (b := 18446744073709551616) (by decide))
  have hc : ((2 : Int) ^ i - 1) = ((2 ^ i - 1 : Nat) : Int) := by
    rw [Int.natCast_sub hpos]; simp
  have hx : BitVec.ofInt 64 x = BitVec.ofNat 64 a := by
    apply BitVec.eq_of_toNat_eq
    rw [BitVec.toNat_ofInt, BitVec.toNat_ofNat]
    have h2 : x % ((2 ^ 64 : Nat) : Int) = (a : Int) := ha
    rw [h2]
    have : a < 2 ^ 64 := by omega
    rw [Nat.mod_eq_of_lt this]
    simp
  have hd : x % 2 ^ i = ((a % 2 ^ i : Nat) : Int) := by
    have h1 : x % 18446744073709551616 % ((2 ^ i : Nat) : Int) = x % ((2 ^ i : Nat) : Int) := by
      apply Int.emod_emod_of_dvd
      have : (18446744073709551616 : Int) = ((2 ^ 64 : Nat) : Int) := by decide
      rw [this]
      exact_mod_cast Nat.pow_dvd_pow 2 (show i ≤ 64 by omega)
    rw [ha] at h1
    have e : ((2 ^ i : Nat) : Int) = (2 : Int) ^ i := by simp
    rw [e] at h1
    rw [← h1, ← e]
    norm_cast
  have h64 : (2 ^ i - 1) % 2 ^ 64 = 2 ^ i - 1 := Nat.mod_eq_of_lt (by omega)
  have ha64 : a % 2 ^ 64 = a := Nat.mod_eq_of_lt (by omega)
  show IntKind.i64.wrap ((BitVec.ofInt 64 x &&& BitVec.ofInt 64 (2 ^ i - 1)).toNat : Int) = _
  rw [hx, hc, BitVec.ofInt_natCast, BitVec.toNat_and, BitVec.toNat_ofNat, BitVec.toNat_ofNat, h64, ha64, Nat.and_two_pow_sub_one_eq_mod, hd, IntKind.wrap_i64]
  have : a % 2 ^ i < 2 ^ i := Nat.mod_lt _ hpos
  omega
@[go_sem] theorem and1_ (x : Int) : bits .and .i64 x 1 = x % 2 := bits_low 1 (by decide) x
@[go_sem] theorem and3_ (x : Int) : bits .and .i64 x 3 = x % 4 := bits_low 2 (by decide) x
@[go_sem] theorem and7_ (x : Int) : bits .and .i64 x 7 = x % 8 := bits_low 3 (by decide) x
@[go_sem] theorem and31_ (x : Int) : bits .and .i64 x 31 = x % 32 := bits_low 5 (by decide) x
@[go_sem] theorem and63_ (x : Int) : bits .and .i64 x 63 = x % 64 := bits_low 6 (by decide) x
@[go_sem] theorem and65535_ (x : Int) : bits .and .i64 x 65535 = x % 65536 := bits_low 16 (by decide) x

/-- a slice value that holds the numbers l -/
structure Ints (w : World) (A : Option Addr) (n : Nat) (l : List Int) : Prop where
  len : l.length = n
  at_ : ∀ i, i < n → ∃ a, A = some a ∧ w.cell? (a.add i) = some (.int .i64 (l.getD i 0))
theorem cellIn {w : World} {a : Addr} {v : Value} (h : w.cell? a = some v) : a.block < w.heap.size := by
  rcases Nat.lt_or_ge a.block w.heap.size with h1 | h1
  · exact h1
  · unfold World.cell? at h
    simp [Array.getElem?_eq_none h1] at h
theorem Ints.below {w w' : World} {A : Option Addr} {n : Nat} {l : List Int} (h : Ints w A n l) (hb : Below w.heap.size w w') : Ints w' A n l :=
  ⟨h.len, fun i hi => by
    obtain ⟨a, e, hc⟩ := h.at_ i hi
    exact ⟨a, e, (hb.cell (cellIn hc)).trans hc⟩⟩

def atI (l : List Int) (i : Nat) : Nat := if l.length = 0 then i else (l.getD (i % l.length) 0 % 65536).toNat + i / l.length

theorem atI_lt (l : List Int) (i : Nat) (h : i ≤ 1000) : atI l i < 70000 := by
  unfold atI
  split
  · omega
  · have := Int.emod_lt_of_pos (l.getD (i % l.length) 0) (show (0 : Int) < 65536 by decide)
    have := Int.emod_nonneg (l.getD (i % l.length) 0) (show (65536 : Int) ≠ 0 by decide)
    have := Nat.div_le_self i l.length
    omega

set_option maxHeartbeats 1000000 in
theorem at_any (A : Option Addr) (n cap : Nat) (l : List Int) (i : Nat) (w : World) (h : Ints w A n l) (hi : i ≤ 1000) (hn : n ≤ 9223372036854775807) :
    Calls Tryd.prog 62 #[.slice A n cap, .int .i64 i] w fun e w' => e = .returned (.int .i64 (atI l i)) ∧ Below w.heap.size w w' := by
  have hl := h.len
  rcases Nat.eq_zero_or_pos n with h0 | h0
  · subst h0
    have e : atI l i = i := by rw [atI, if_pos hl]
    rw [e]
    have e2 : (i : Int) % 65536 = i := by omega
    go_enter Tryd.func62, Tryd.ntmps62
    go_wp2
    go_ret
    exact ⟨rfl, Below.refl _ _⟩
  · have hlt : i % n < n := Nat.mod_lt _ h0
    obtain ⟨a, rfl, hc⟩ := h.at_ (i % n) hlt
    have h2 : i / n ≤ 1000 := Nat.le_trans (Nat.div_le_self _ _) hi
    have h3 : (i : Int) / (n : Int) = ((i / n : Nat) : Int) := by norm_cast
    have h4 : (0 : Int) ≤ (i : Int) / (n : Int) := by rw [h3]; exact Int.natCast_nonneg _
    have h5 : (i : Int) / (n : Int) ≤ 1000 := by rw [h3]; exact_mod_cast h2
    have e : (atI l i : Int) = l.getD (i % n) 0 % 65536 + (i : Int) / (n : Int) % 65536 := by
      rw [atI, if_neg (by omega), hl, h3]
      generalize i / n = q at *
      have h1 := Int.emod_nonneg (l.getD (i % n) 0) (show (65536 : Int) ≠ 0 by decide)
      omega
    clear h3
    rw [e]
    generalize l.getD (i % n) 0 = x at *
    clear e
    go_enter Tryd.func62, Tryd.ntmps62
    go_wp2_with fail
    go_quiet (fail)
    go_wp2
    go_ret
    exact ⟨rfl, ⟨rfl, rfl, rfl, Nat.le_refl _, fun _ _ => rfl⟩⟩

def wordS (n : Nat) : ByteArray := match n with
  | 0 => ⟨#[]⟩
  | 1 => ⟨#[97]⟩
  | 2 => ⟨#[98]⟩
  | 3 => ⟨#[108, 111, 103, 105, 110]⟩
  | 4 => ⟨#[107, 101, 121]⟩
  | 5 => ⟨#[101, 120, 97, 109, 112, 108, 101, 46, 111, 114, 103]⟩
  | 6 => ⟨#[195, 169]⟩
  | _ => ⟨#[48, 49, 50, 51, 52, 53, 54, 55, 56, 57, 48, 49, 50, 51, 52, 53]⟩
def textS (k : Nat) : ByteArray := wordS (k % 8) ++ wordS (k / 8 % 8)

abbrev wordsO : Obj := .cells #[.string { data := #[] }, .string { data := #[97] }, .string { data := #[98] }, .string { data := #[108, 111, 103, 105, 110] }, .string { data := #[107, 101, 121] }, .string { data := #[101, 120, 97, 109, 112, 108, 101, 46, 111, 114, 103] }, .string { data := #[195, 169] }, .string { data := #[48, 49, 50, 51, 52, 53, 54, 55, 56, 57, 48, 49, 50, 51, 52, 53] }] 9
theorem word_cell (w : World) (i : Nat) (hi : i < 8) : (w.alloc wordsO).cell? ⟨w.heap.size, i, none⟩ = some (.string (wordS i)) := by
  refine cell_of_block (heap_new w _) ?_
  match i, hi with
  | 0, _ => rfl
  | 1, _ => rfl
  | 2, _ => rfl
  | 3, _ => rfl
  | 4, _ => rfl
  | 5, _ => rfl
  | 6, _ => rfl
  | 7, _ => rfl

theorem word_size (n : Nat) : (wordS n).size ≤ 16 := by
  unfold wordS
  split <;> decide
theorem text_size (k : Nat) : (textS k).size ≤ 32 := by
  have h1 := word_size (k % 8)
  have h2 := word_size (k / 8 % 8)
  rw [textS, ByteArray.size_append]
  omega

set_option maxHeartbeats 1000000 in
theorem txt_any (k : Nat) (w : World) :
    Calls Tryd.prog 63 #[.int .i64 k] w fun e w' => e = .returned (.string (textS k)) ∧ Below w.heap.size w w' := by
  have h1 : k % 8 < 8 := Nat.mod_lt _ (by decide)
  have h2 : k / 8 % 8 < 8 := Nat.mod_lt _ (by decide)
  have C1 := Lib.hid (word_cell w (k % 8) h1)
  have C2 := Lib.hid (word_cell w (k / 8 % 8) h2)
  have HB := Lib.hid ((Below.refl w.heap.size w).alloc (Nat.le_refl _) wordsO)
  have z1 := word_size (k % 8)
  have z2 := word_size (k / 8 % 8)
  unfold textS
  generalize wordS (k % 8) = s1 at *
  generalize wordS (k / 8 % 8) = s2 at *
  go_enter Tryd.func63, Tryd.ntmps63
  go_wp2_with fail
  obtain ⟨W, hW⟩ : ∃ W, w.alloc wordsO = W := ⟨_, rfl⟩
  rw [hW]
  have c1 := C1.out
  have c2 := C2.out
  have hb := HB.out
  rw [hW] at c1 c2 hb
  clear hW C1 C2 HB
  generalize hBs : w.heap.size = B at *
  have e1 : (k : Int) % 8 = ((k % 8 : Nat) : Int) := by omega
  have e2 : (k : Int) / 8 % 8 = ((k / 8 % 8 : Nat) : Int) := by omega
  generalize k % 8 = m1 at *
  generalize k / 8 % 8 = m2 at *
  have e3 : (m1 : Int) < 8 := by omega
  have e4 : (m2 : Int) < 8 := by omega
  have hadd := fun (W : World) => run_string_add_sum (P := Tryd.prog) (w := W) s1 s2 (by omega)
  have hsum : (s1.size : Int) + (s2.size : Int) ≤ 9223372036854775807 := by omega
  go_quiet (fail)
  go_wp2
  go_ret
  exact ⟨rfl, by rw [hBs]; exact hb.trans ⟨rfl, rfl, rfl, Nat.le_refl _, fun _ _ => rfl⟩⟩
end Go.Proofs.YtepinmeidjlmmaaDoor

/- The tree of a law, plain. -/
namespace Go.Proofs.YtepinmeidjlmmaaDoor
open Go.RowKit
set_option maxRecDepth 100000

def shlW (k s : Nat) : Int := ((k * 2 ^ s % 18446744073709551616 : Nat) : Int)
/-- a leaf of the tree -/
def leafI (n : Nat) : It :=
  if n % 8 = 0 then ⟨1, shlW (n / 8) (n / 8 % 64), ⟨#[]⟩⟩
  else if n % 8 = 1 then ⟨2, shlW (n / 8) (n / 8 / 4 % 64), ⟨#[]⟩⟩
  else if n % 8 = 2 then ⟨3, 0, textS (n / 8)⟩
  else if n % 8 = 3 then ⟨4, 0, textS (n / 8)⟩
  else if n % 8 = 4 then ⟨7, ((n / 8 % 2 : Nat) : Int), ⟨#[]⟩⟩
  else ⟨8, 0, ⟨#[]⟩⟩
/-- a key of a map -/
def longkey : ByteArray := ⟨#[108, 111, 110, 103, 107, 101, 121]⟩
def keyI (k i : Nat) : It := if i = 2 ∧ k / 128 % 2 = 1 then ⟨4, 0, longkey ++ textS (k % 4)⟩ else ⟨1, ((k / 4 % 32 + 20 * i : Nat) : Int), ⟨#[]⟩⟩
/-- the parts behind an array's or a map's head -/
def kidsE (T : Nat → List It × Nat) (ky : Nat → List It) : Nat → Nat → Nat → List It × Nat
  | 0, _, a => ([], a)
  | c + 1, i, a => (ky i ++ (T a).1 ++ (kidsE T ky c (i + 1) (T a).2).1, (kidsE T ky c (i + 1) (T a).2).2)
def nestB (n a : Nat) : Bool := decide (6 ≤ n % 8) && decide (a + 1 ≤ 30)
def keysOf (n : Nat) : Nat → List It := if n % 8 = 6 then fun _ => [] else fun i => [keyI (n / 8) i]
def headI (n : Nat) : It := ⟨if n % 8 = 6 then 5 else 6, ((n / 8 % 4 : Nat) : Int), ⟨#[]⟩⟩
/-- the tree at a: f more levels are allowed -/
def treeE (l : List Int) : Nat → Nat → List It × Nat
  | 0, a => ([leafI (atI l a)], a + 1)
  | f + 1, a =>
    if nestB (atI l a) a = true then
      (headI (atI l a) :: (kidsE (treeE l f) (keysOf (atI l a)) (atI l a / 8 % 4) 0 (a + 1)).1, (kidsE (treeE l f) (keysOf (atI l a)) (atI l a / 8 % 4) 0 (a + 1)).2)
    else ([leafI (atI l a)], a + 1)

theorem treeE_zero (l : List Int) (a : Nat) : treeE l 0 a = ([leafI (atI l a)], a + 1) := rfl
theorem treeE_leaf {l : List Int} {f a : Nat} (h : nestB (atI l a) a = false) : treeE l (f + 1) a = ([leafI (atI l a)], a + 1) := by simp [treeE, h]
theorem treeE_nest {l : List Int} {f a : Nat} (h : nestB (atI l a) a = true) : treeE l (f + 1) a = (headI (atI l a) :: (kidsE (treeE l f) (keysOf (atI l a)) (atI l a / 8 % 4) 0 (a + 1)).1, (kidsE (treeE l f) (keysOf (atI l a)) (atI l a / 8 % 4) 0 (a + 1)).2) := by simp [treeE, h]

theorem keysOf_len (n i : Nat) : (keysOf n i).length ≤ 1 := by
  unfold keysOf
  split <;> simp
theorem kids_bound {T : Nat → List It × Nat} {ky : Nat → List It} {L C : Nat} (hT : ∀ a, (T a).1.length ≤ L ∧ (T a).2 ≤ a + C) (hk : ∀ i, (ky i).length ≤ 1) :
    ∀ c i a, (kidsE T ky c i a).1.length ≤ c * (L + 1) ∧ (kidsE T ky c i a).2 ≤ a + c * C
  | 0, i, a => by simp [kidsE]
  | c + 1, i, a => by
    obtain ⟨h1, h2⟩ := kids_bound hT hk c (i + 1) (T a).2
    obtain ⟨h3, h4⟩ := hT a
    have h5 := hk i
    simp only [kidsE, List.length_append, Nat.add_mul, Nat.one_mul]
    refine ⟨?_, ?_⟩
    · have := Nat.mul_add c L 1
      omega
    · omega
def lenB : Nat → Nat
  | 0 => 1
  | f + 1 => 1 + 3 * (lenB f + 1)
def numB : Nat → Nat
  | 0 => 1
  | f + 1 => 1 + 3 * numB f
theorem lenB_pos : ∀ f, 1 ≤ lenB f
  | 0 => Nat.le_refl _
  | f + 1 => by simp [lenB]
theorem numB_pos : ∀ f, 1 ≤ numB f
  | 0 => Nat.le_refl _
  | f + 1 => by simp [numB]
theorem tree_bound (l : List Int) : ∀ f a, (treeE l f a).1.length ≤ lenB f ∧ (treeE l f a).2 ≤ a + numB f
  | 0, a => ⟨Nat.le_refl _, Nat.le_refl _⟩
  | f + 1, a => by
    by_cases h : nestB (atI l a) a = true
    · rw [treeE_nest h]
      obtain ⟨h1, h2⟩ := kids_bound (tree_bound l f) (keysOf_len (atI l a)) (atI l a / 8 % 4) 0 (a + 1)
      have h3 : atI l a / 8 % 4 ≤ 3 := by omega
      have h4 := Nat.mul_le_mul_right (lenB f + 1) h3
      have h5 := Nat.mul_le_mul_right (numB f) h3
      simp only [List.length_cons, lenB, numB]
      omega
    · have h' : nestB (atI l a) a = false := by simpa using h
      rw [treeE_leaf h']
      have h1 := lenB_pos (f + 1)
      have h2 := numB_pos (f + 1)
      simp only [List.length_singleton]
      omega
theorem tree_ne (l : List Int) (f a : Nat) : (treeE l f a).1 ≠ [] := by
  cases f with
  | zero => simp [treeE]
  | succ f =>
    unfold treeE
    split <;> simp

/-- what every item of a tree is like -/
def Fine (x : It) : Prop := 0 ≤ x.n ∧ x.d.size ≤ 100
theorem none_small : (⟨#[]⟩ : ByteArray).size ≤ 100 := by decide
theorem leaf_fine (n : Nat) : Fine (leafI n) := by
  have h1 := text_size (n / 8)
  unfold leafI Fine shlW
  have h0 := none_small
  repeat' split
  all_goals (refine ⟨?_, ?_⟩ <;> dsimp only <;> omega)
theorem key_fine (k i : Nat) : Fine (keyI k i) := by
  have h1 := text_size (k % 4)
  have h2 : longkey.size = 7 := rfl
  unfold keyI Fine
  split
  · simp only [ByteArray.size_append]; omega
  · exact ⟨Int.natCast_nonneg _, none_small⟩
theorem kids_fine {T : Nat → List It × Nat} {ky : Nat → List It} (hT : ∀ a, ∀ x ∈ (T a).1, Fine x) (hk : ∀ i, ∀ x ∈ ky i, Fine x) :
    ∀ c i a, ∀ x ∈ (kidsE T ky c i a).1, Fine x
  | 0, i, a, x, h => by simp [kidsE] at h
  | c + 1, i, a, x, h => by
    simp only [kidsE, List.mem_append] at h
    rcases h with (h | h) | h
    · exact hk i x h
    · exact hT a x h
    · exact kids_fine hT hk c (i + 1) _ x h
theorem keysOf_fine (n : Nat) : ∀ i, ∀ x ∈ keysOf n i, Fine x := by
  intro i x h
  unfold keysOf at h
  split at h
  · simp at h
  · simp at h; subst h; exact key_fine _ _
theorem tree_fine (l : List Int) : ∀ f a, ∀ x ∈ (treeE l f a).1, Fine x
  | 0, a, x, h => by simp [treeE] at h; subst h; exact leaf_fine _
  | f + 1, a, x, h => by
    by_cases hn : nestB (atI l a) a = true
    · rw [treeE_nest hn] at h
      simp only [List.mem_cons] at h
      rcases h with h | h
      · subst h; exact ⟨Int.natCast_nonneg _, none_small⟩
      · exact kids_fine (tree_fine l f) (keysOf_fine _) _ _ _ x h
    · have h' : nestB (atI l a) a = false := by simpa using hn
      rw [treeE_leaf h'] at h
      simp at h; subst h; exact leaf_fine _
end Go.Proofs.YtepinmeidjlmmaaDoor

/- The tree of a law: its leaves, walked. -/
namespace Go.Proofs.YtepinmeidjlmmaaDoor
open Go.RowKit
set_option maxRecDepth 100000

def LeafP (x : It) (a : Nat) (w : World) (e : Ending) (w' : World) : Prop := ∃ v, e = .returned (.tuple #[v, .int .i64 ((a : Int) + 1)]) ∧ w'.ownsRow w.heap.size 58 3 v 1 (itCells [x]) ∧ Below w.heap.size w w'
theorem shl_eq (k s : Nat) : IntKind.u64.wrap ((k : Int) * (2 : Int) ^ s) = shlW k s := by
  rw [shlW, IntKind.wrap_u64, Int.natCast_emod, Int.natCast_mul, Int.natCast_pow]
  rfl
theorem leaf_end (x : It) {w W : World} (h : Below w.heap.size w W) : (W.alloc (.cells #[.int .i64 x.k, .int .u64 x.n, .string x.d] 58)).ownsRow w.heap.size 58 3 (.slice (some ⟨W.heap.size, 0, none⟩) 1 1) 1 (itCells [x]) ∧ Below w.heap.size w (W.alloc (.cells #[.int .i64 x.k, .int .u64 x.n, .string x.d] 58)) :=
  ⟨own_lit W x.k x.n x.d w.heap.size h.size, h.alloc h.size _⟩

set_option maxHeartbeats 1000000 in
theorem leaf0 (A : Option Addr) (n cap : Nat) (l : List Int) (a dep N K : Nat) (w : World) (h : Ints w A n l) (hn : n ≤ 9223372036854775807) (ha : a ≤ 900) (hN : atI l a = N) (hK : N / 8 = K) (hN2 : N < 70000) (hc : N % 8 = 0) :
    Calls Tryd.prog 43 #[.slice A n cap, .int .i64 a, .int .i64 dep] w (LeafP ⟨1, shlW K (K % 64), ⟨#[]⟩⟩ a w) := by
  have e1 : (N : Int) % 8 = 0 := by omega
  have e2 : (N : Int) / 8 = K := by omega
  have e3 : (K : Int) ≤ 10000 := by omega
  have e4 : (a : Int) ≤ 900 := by omega
  have HA := Lib.hid (at_any A n cap l a w h (by omega) hn)
  rw [hN] at HA
  clear h hN hn hK hN2 hc
  go_enter Tryd.func43, Tryd.ntmps43
  go_wp2_with (go_at_call 62; refine HA.out.mono ?_; rintro e w1 ⟨rfl, hb1⟩)
  rw [shl_eq]
  go_ret2
  exact ⟨_, rfl, leaf_end ⟨1, shlW K (K % 64), ⟨#[]⟩⟩ hb1⟩

set_option maxHeartbeats 1000000 in
theorem leaf1 (A : Option Addr) (n cap : Nat) (l : List Int) (a dep N K : Nat) (w : World) (h : Ints w A n l) (hn : n ≤ 9223372036854775807) (ha : a ≤ 900) (hN : atI l a = N) (hK : N / 8 = K) (hN2 : N < 70000) (hc : N % 8 = 1) :
    Calls Tryd.prog 43 #[.slice A n cap, .int .i64 a, .int .i64 dep] w (LeafP ⟨2, shlW K (K / 4 % 64), ⟨#[]⟩⟩ a w) := by
  have e1 : (N : Int) % 8 = 1 := by omega
  have e2 : (N : Int) / 8 = K := by omega
  have e3 : (K : Int) ≤ 10000 := by omega
  have e4 : (a : Int) ≤ 900 := by omega
  have HA := Lib.hid (at_any A n cap l a w h (by omega) hn)
  rw [hN] at HA
  clear h hN hn hK hN2 hc
  go_enter Tryd.func43, Tryd.ntmps43
  go_wp2_with (go_at_call 62; refine HA.out.mono ?_; rintro e w1 ⟨rfl, hb1⟩)
  rw [shl_eq]
  go_ret2
  exact ⟨_, rfl, leaf_end ⟨2, shlW K (K / 4 % 64), ⟨#[]⟩⟩ hb1⟩

set_option maxHeartbeats 1000000 in
theorem leaf2 (A : Option Addr) (n cap : Nat) (l : List Int) (a dep N K : Nat) (w : World) (h : Ints w A n l) (hn : n ≤ 9223372036854775807) (ha : a ≤ 900) (hN : atI l a = N) (hK : N / 8 = K) (hN2 : N < 70000) (hc : N % 8 = 2) :
    Calls Tryd.prog 43 #[.slice A n cap, .int .i64 a, .int .i64 dep] w (LeafP ⟨3, 0, textS K⟩ a w) := by
  have e1 : (N : Int) % 8 = 2 := by omega
  have e2 : (N : Int) / 8 = K := by omega
  have e3 : (K : Int) ≤ 10000 := by omega
  have e4 : (a : Int) ≤ 900 := by omega
  have HA := Lib.hid (at_any A n cap l a w h (by omega) hn)
  rw [hN] at HA
  clear h hN hn hK hN2 hc
  go_enter Tryd.func43, Tryd.ntmps43
  go_wp2_with (first | (go_at_call 62; refine HA.out.mono ?_; rintro e w1 ⟨rfl, hb1⟩) | (go_at_call 63; refine (txt_any K _).mono ?_; rintro e w2 ⟨rfl, hb2⟩) | fail)
  go_ret2
  exact ⟨_, rfl, leaf_end ⟨3, 0, textS K⟩ (hb1.trans (hb2.mono hb1.size))⟩

set_option maxHeartbeats 1000000 in
theorem leaf3 (A : Option Addr) (n cap : Nat) (l : List Int) (a dep N K : Nat) (w : World) (h : Ints w A n l) (hn : n ≤ 9223372036854775807) (ha : a ≤ 900) (hN : atI l a = N) (hK : N / 8 = K) (hN2 : N < 70000) (hc : N % 8 = 3) :
    Calls Tryd.prog 43 #[.slice A n cap, .int .i64 a, .int .i64 dep] w (LeafP ⟨4, 0, textS K⟩ a w) := by
  have e1 : (N : Int) % 8 = 3 := by omega
  have e2 : (N : Int) / 8 = K := by omega
  have e3 : (K : Int) ≤ 10000 := by omega
  have e4 : (a : Int) ≤ 900 := by omega
  have HA := Lib.hid (at_any A n cap l a w h (by omega) hn)
  rw [hN] at HA
  clear h hN hn hK hN2 hc
  go_enter Tryd.func43, Tryd.ntmps43
  go_wp2_with (first | (go_at_call 62; refine HA.out.mono ?_; rintro e w1 ⟨rfl, hb1⟩) | (go_at_call 63; refine (txt_any K _).mono ?_; rintro e w2 ⟨rfl, hb2⟩) | fail)
  go_ret2
  exact ⟨_, rfl, leaf_end ⟨4, 0, textS K⟩ (hb1.trans (hb2.mono hb1.size))⟩

set_option maxHeartbeats 1000000 in
theorem leaf4 (A : Option Addr) (n cap : Nat) (l : List Int) (a dep N K : Nat) (w : World) (h : Ints w A n l) (hn : n ≤ 9223372036854775807) (ha : a ≤ 900) (hN : atI l a = N) (hK : N / 8 = K) (hN2 : N < 70000) (hc : N % 8 = 4) :
    Calls Tryd.prog 43 #[.slice A n cap, .int .i64 a, .int .i64 dep] w (LeafP ⟨7, ((K % 2 : Nat) : Int), ⟨#[]⟩⟩ a w) := by
  have e1 : (N : Int) % 8 = 4 := by omega
  have e2 : (N : Int) / 8 = K := by omega
  have e3 : (K : Int) ≤ 10000 := by omega
  have e4 : (a : Int) ≤ 900 := by omega
  have HA := Lib.hid (at_any A n cap l a w h (by omega) hn)
  rw [hN] at HA
  clear h hN hn hK hN2 hc
  go_enter Tryd.func43, Tryd.ntmps43
  go_wp2_with (go_at_call 62; refine HA.out.mono ?_; rintro e w1 ⟨rfl, hb1⟩)
  go_ret2
  exact ⟨_, rfl, leaf_end ⟨7, ((K % 2 : Nat) : Int), ⟨#[]⟩⟩ hb1⟩

set_option maxHeartbeats 1000000 in
theorem leaf5 (A : Option Addr) (n cap : Nat) (l : List Int) (a dep N K : Nat) (w : World) (h : Ints w A n l) (hn : n ≤ 9223372036854775807) (ha : a ≤ 900) (hN : atI l a = N) (hK : N / 8 = K) (hN2 : N < 70000) (hc : N % 8 = 5) :
    Calls Tryd.prog 43 #[.slice A n cap, .int .i64 a, .int .i64 dep] w (LeafP ⟨8, 0, ⟨#[]⟩⟩ a w) := by
  have e1 : (N : Int) % 8 = 5 := by omega
  have e2 : (N : Int) / 8 = K := by omega
  have e3 : (K : Int) ≤ 10000 := by omega
  have e4 : (a : Int) ≤ 900 := by omega
  have HA := Lib.hid (at_any A n cap l a w h (by omega) hn)
  rw [hN] at HA
  clear h hN hn hK hN2 hc
  go_enter Tryd.func43, Tryd.ntmps43
  go_wp2_with (go_at_call 62; refine HA.out.mono ?_; rintro e w1 ⟨rfl, hb1⟩)
  go_ret2
  exact ⟨_, rfl, leaf_end ⟨8, 0, ⟨#[]⟩⟩ hb1⟩

set_option maxHeartbeats 1000000 in
theorem leaf6d (A : Option Addr) (n cap : Nat) (l : List Int) (a dep N K : Nat) (w : World) (h : Ints w A n l) (hn : n ≤ 9223372036854775807) (ha : a ≤ 900) (hN : atI l a = N) (hK : N / 8 = K) (hN2 : N < 70000) (hc : N % 8 = 6) (hd : 3 < dep) :
    Calls Tryd.prog 43 #[.slice A n cap, .int .i64 a, .int .i64 dep] w (LeafP ⟨8, 0, ⟨#[]⟩⟩ a w) := by
  have e1 : (N : Int) % 8 = 6 := by omega
  have e2 : (N : Int) / 8 = K := by omega
  have e3 : (K : Int) ≤ 10000 := by omega
  have e4 : (a : Int) ≤ 900 := by omega
  have e5 : (3 : Int) < (dep : Int) := by omega
  have HA := Lib.hid (at_any A n cap l a w h (by omega) hn)
  rw [hN] at HA
  clear h hN hn hK hN2 hc
  go_enter Tryd.func43, Tryd.ntmps43
  go_wp2_with (go_at_call 62; refine HA.out.mono ?_; rintro e w1 ⟨rfl, hb1⟩)
  go_ret2
  exact ⟨_, rfl, leaf_end ⟨8, 0, ⟨#[]⟩⟩ hb1⟩

set_option maxHeartbeats 1000000 in
theorem leaf6a (A : Option Addr) (n cap : Nat) (l : List Int) (a dep N K : Nat) (w : World) (h : Ints w A n l) (hn : n ≤ 9223372036854775807) (ha : a ≤ 900) (hN : atI l a = N) (hK : N / 8 = K) (hN2 : N < 70000) (hc : N % 8 = 6) (hd : dep ≤ 3) (h30 : 30 < a + 1) :
    Calls Tryd.prog 43 #[.slice A n cap, .int .i64 a, .int .i64 dep] w (LeafP ⟨8, 0, ⟨#[]⟩⟩ a w) := by
  have e1 : (N : Int) % 8 = 6 := by omega
  have e2 : (N : Int) / 8 = K := by omega
  have e3 : (K : Int) ≤ 10000 := by omega
  have e4 : (a : Int) ≤ 900 := by omega
  have e5 : ¬ (3 : Int) < (dep : Int) := by omega
  have e6 : (30 : Int) < (a : Int) + 1 := by omega
  have HA := Lib.hid (at_any A n cap l a w h (by omega) hn)
  rw [hN] at HA
  clear h hN hn hK hN2 hc
  go_enter Tryd.func43, Tryd.ntmps43
  go_wp2_with (go_at_call 62; refine HA.out.mono ?_; rintro e w1 ⟨rfl, hb1⟩)
  go_ret2
  exact ⟨_, rfl, leaf_end ⟨8, 0, ⟨#[]⟩⟩ hb1⟩

set_option maxHeartbeats 1000000 in
theorem leaf7d (A : Option Addr) (n cap : Nat) (l : List Int) (a dep N K : Nat) (w : World) (h : Ints w A n l) (hn : n ≤ 9223372036854775807) (ha : a ≤ 900) (hN : atI l a = N) (hK : N / 8 = K) (hN2 : N < 70000) (hc : N % 8 = 7) (hd : 3 < dep) :
    Calls Tryd.prog 43 #[.slice A n cap, .int .i64 a, .int .i64 dep] w (LeafP ⟨8, 0, ⟨#[]⟩⟩ a w) := by
  have e1 : (N : Int) % 8 = 7 := by omega
  have e2 : (N : Int) / 8 = K := by omega
  have e3 : (K : Int) ≤ 10000 := by omega
  have e4 : (a : Int) ≤ 900 := by omega
  have e5 : (3 : Int) < (dep : Int) := by omega
  have HA := Lib.hid (at_any A n cap l a w h (by omega) hn)
  rw [hN] at HA
  clear h hN hn hK hN2 hc
  go_enter Tryd.func43, Tryd.ntmps43
  go_wp2_with (go_at_call 62; refine HA.out.mono ?_; rintro e w1 ⟨rfl, hb1⟩)
  go_ret2
  exact ⟨_, rfl, leaf_end ⟨8, 0, ⟨#[]⟩⟩ hb1⟩

set_option maxHeartbeats 1000000 in
theorem leaf7a (A : Option Addr) (n cap : Nat) (l : List Int) (a dep N K : Nat) (w : World) (h : Ints w A n l) (hn : n ≤ 9223372036854775807) (ha : a ≤ 900) (hN : atI l a = N) (hK : N / 8 = K) (hN2 : N < 70000) (hc : N % 8 = 7) (hd : dep ≤ 3) (h30 : 30 < a + 1) :
    Calls Tryd.prog 43 #[.slice A n cap, .int .i64 a, .int .i64 dep] w (LeafP ⟨8, 0, ⟨#[]⟩⟩ a w) := by
  have e1 : (N : Int) % 8 = 7 := by omega
  have e2 : (N : Int) / 8 = K := by omega
  have e3 : (K : Int) ≤ 10000 := by omega
  have e4 : (a : Int) ≤ 900 := by omega
  have e5 : ¬ (3 : Int) < (dep : Int) := by omega
  have e6 : (30 : Int) < (a : Int) + 1 := by omega
  have HA := Lib.hid (at_any A n cap l a w h (by omega) hn)
  rw [hN] at HA
  clear h hN hn hK hN2 hc
  go_enter Tryd.func43, Tryd.ntmps43
  go_wp2_with (go_at_call 62; refine HA.out.mono ?_; rintro e w1 ⟨rfl, hb1⟩)
  go_ret2
  exact ⟨_, rfl, leaf_end ⟨8, 0, ⟨#[]⟩⟩ hb1⟩
end Go.Proofs.YtepinmeidjlmmaaDoor

/- The tree of a law: leaves as one contract, arrays. -/
namespace Go.Proofs.YtepinmeidjlmmaaDoor
open Go.RowKit
set_option maxRecDepth 100000

def TreeP (r : List It × Nat) (w : World) (e : Ending) (w' : World) : Prop := ∃ v, e = .returned (.tuple #[v, .int .i64 (r.2 : Nat)]) ∧ w'.ownsRow w.heap.size 58 3 v r.1.length (itCells r.1) ∧ Below w.heap.size w w'

theorem leaf_any (A : Option Addr) (n cap : Nat) (l : List Int) (a dep : Nat) (w : World) (h : Ints w A n l) (hn : n ≤ 9223372036854775807) (ha : a ≤ 900) (hs : atI l a % 8 ≤ 5 ∨ 3 < dep ∨ 30 < a + 1) :
    Calls Tryd.prog 43 #[.slice A n cap, .int .i64 a, .int .i64 dep] w (TreeP ([leafI (atI l a)], a + 1) w) := by
  have hlt := atI_lt l a (by omega)
  obtain ⟨N, hN⟩ : ∃ N, atI l a = N := ⟨_, rfl⟩
  obtain ⟨K, hK⟩ : ∃ K, N / 8 = K := ⟨_, rfl⟩
  rw [hN] at hs hlt ⊢
  have key : ∀ x, leafI N = x → Calls Tryd.prog 43 #[.slice A n cap, .int .i64 a, .int .i64 dep] w (LeafP x a w) → Calls Tryd.prog 43 #[.slice A n cap, .int .i64 a, .int .i64 dep] w (TreeP ([leafI N], a + 1) w) := by
    intro x hx hc
    rw [hx]
    exact hc.mono fun e w' h => h
  have hm : N % 8 < 8 := Nat.mod_lt _ (by decide)
  by_cases h0 : N % 8 = 0
  · exact key _ (by rw [leafI, if_pos h0, hK]) (leaf0 A n cap l a dep N K w h hn ha hN hK hlt h0)
  by_cases h1 : N % 8 = 1
  · exact key _ (by rw [leafI, if_neg h0, if_pos h1, hK]) (leaf1 A n cap l a dep N K w h hn ha hN hK hlt h1)
  by_cases h2 : N % 8 = 2
  · exact key _ (by rw [leafI, if_neg h0, if_neg h1, if_pos h2, hK]) (leaf2 A n cap l a dep N K w h hn ha hN hK hlt h2)
  by_cases h3 : N % 8 = 3
  · exact key _ (by rw [leafI, if_neg h0, if_neg h1, if_neg h2, if_pos h3, hK]) (leaf3 A n cap l a dep N K w h hn ha hN hK hlt h3)
  by_cases h4 : N % 8 = 4
  · exact key _ (by rw [leafI, if_neg h0, if_neg h1, if_neg h2, if_neg h3, if_pos h4, hK]) (leaf4 A n cap l a dep N K w h hn ha hN hK hlt h4)
  refine key _ (by rw [leafI, if_neg h0, if_neg h1, if_neg h2, if_neg h3, if_neg h4]) ?_
  by_cases h5 : N % 8 = 5
  · exact leaf5 A n cap l a dep N K w h hn ha hN hK hlt h5
  by_cases h6 : N % 8 = 6
  · by_cases hd : 3 < dep
    · exact leaf6d A n cap l a dep N K w h hn ha hN hK hlt h6 hd
    · exact leaf6a A n cap l a dep N K w h hn ha hN hK hlt h6 (by omega) (by omega)
  · by_cases hd : 3 < dep
    · exact leaf7d A n cap l a dep N K w h hn ha hN hK hlt (by omega) hd
    · exact leaf7a A n cap l a dep N K w h hn ha hN hK hlt (by omega) (by omega) (by omega)

/-- what a child's tree is, behind any world -/
def KidC (T : Nat → List It × Nat) (A : Option Addr) (n cap dep M : Nat) (w : World) : Prop :=
  ∀ (W : World) (a : Nat), Below w.heap.size w W → a ≤ M → Calls Tryd.prog 43 #[.slice A n cap, .int .i64 a, .int .i64 ((dep : Int) + 1)] W (TreeP (T a) W)

theorem row_items {w : World} {base n : Nat} {v : Value} {l : List It} (h : w.ownsRow base 58 3 v n (itCells l)) (hne : l ≠ []) (hok : ∀ x ∈ l, Fine x) (hl : l.length ≤ 1000) : ∃ g cap, v = .slice (some ⟨g, 0, none⟩) l.length cap ∧ ItemsAt w w.heap.size (.slice (some ⟨g, 0, none⟩) l.length cap) l := by
  have hn : n = l.length := by have h1 := h.1; rw [itCells_len] at h1; omega
  rcases h.2 with ⟨hv, h0⟩ | ⟨g, cap, cur, hv, _⟩
  · subst h0
    exact absurd (List.eq_nil_of_length_eq_zero hn.symm) hne
  · subst hv hn
    exact ⟨g, cap, rfl, itemsAt_own h (fun x hx => ⟨(hok x hx).1, by have := (hok x hx).2; unfold maxLen; omega⟩) (by omega)⟩

set_option maxHeartbeats 2000000 in
theorem tree_array (T : Nat → List It × Nat) (A : Option Addr) (n cap : Nat) (l : List Int) (a dep N K M L : Nat) (w : World) (h : Ints w A n l) (hn : n ≤ 9223372036854775807) (ha : a ≤ 29) (hN : atI l a = N) (hK : N / 8 = K) (hN2 : N < 70000) (hc : N % 8 = 6) (hd : dep ≤ 3)
    (hT : ∀ a, (T a).1.length ≤ L ∧ (T a).2 ≤ a + M) (hM : M ≤ 200) (hL : L ≤ 300) (hne : ∀ a, (T a).1 ≠ []) (hfine : ∀ a, ∀ x ∈ (T a).1, Fine x)
    (hC : KidC T A n cap dep 800 w) :
    Calls Tryd.prog 43 #[.slice A n cap, .int .i64 a, .int .i64 dep] w (TreeP (⟨5, ((K % 4 : Nat) : Int), ⟨#[]⟩⟩ :: (kidsE T (fun _ => []) (K % 4) 0 (a + 1)).1, (kidsE T (fun _ => []) (K % 4) 0 (a + 1)).2) w) := by
  have e1 : (N : Int) % 8 = 6 := by omega
  have e2 : (N : Int) / 8 = K := by omega
  have e3 : (K : Int) ≤ 10000 := by omega
  have e4 : (a : Int) ≤ 29 := by omega
  have e5 : ¬ (3 : Int) < (dep : Int) := by omega
  have e6 : ¬ (30 : Int) < (a : Int) + 1 := by omega
  obtain ⟨c, hcK⟩ : ∃ c, K % 4 = c := ⟨_, rfl⟩
  rw [hcK]
  have hc3 : c ≤ 3 := by omega
  have e7 : (K : Int) % 4 = c := by omega
  have HA := Lib.hid (at_any A n cap l a w h (by omega) hn)
  rw [hN] at HA
  have HT := Lib.hid hT
  have HNE := Lib.hid hne
  have HF := Lib.hid hfine
  have HC := Lib.hid hC
  clear h hN hn hK hN2 hc hT hne hfine hC
  go_enter Tryd.func43, Tryd.ntmps43
  go_wp2_with (go_at_call 62; refine HA.out.mono ?_; rintro e w1 ⟨rfl, hb1⟩)
  have HO1 := Lib.hid (own_lit w1 5 c ⟨#[]⟩ w.heap.size hb1.size)
  have HB1 := Lib.hid (hb1.alloc hb1.size (.cells #[.int .i64 5, .int .u64 c, .string ⟨#[]⟩] 58))
  clear hb1
  have hgo0 : [(⟨5, (c : Int), ⟨#[]⟩⟩ : It)] ++ (kidsE T (fun _ => []) (c - 0) 0 (a + 1)).1 = ⟨5, (c : Int), ⟨#[]⟩⟩ :: (kidsE T (fun _ => []) c 0 (a + 1)).1 := rfl
  have HG0 := Lib.hid hgo0
  clear hgo0
  go_loopw [1, 11, 12] (fun at_ out i wr => ∃ (j a2 m : Nat) (xs : List It), j ≤ c ∧ at_ = .int .i64 a2 ∧ i = .int .i64 j ∧ m = xs.length ∧ a2 ≤ 30 + 200 * j ∧ m ≤ 1 + 300 * j ∧ Hid (wr.ownsRow w.heap.size 58 3 out m (itCells xs)) ∧ Below w.heap.size w wr ∧ Hid (xs ++ (kidsE T (fun _ => []) (c - j) j a2).1 = ⟨5, (c : Int), ⟨#[]⟩⟩ :: (kidsE T (fun _ => []) c 0 (a + 1)).1) ∧ Hid ((kidsE T (fun _ => []) (c - j) j a2).2 = (kidsE T (fun _ => []) c 0 (a + 1)).2)) (fun _ _ i _ => c - (intOf i).toNat)
  case atStart => exact ⟨0, a + 1, 1, [⟨5, c, ⟨#[]⟩⟩], by omega, by go_num, rfl, rfl, by omega, by omega, HO1, HB1.out, HG0, Lib.hid rfl⟩
  case round =>
    obtain ⟨j, a2, m, xs, hj, rfl, rfl, hm, ha2, hxl, HO, hbw, HG, HG2⟩ := hrel
    have HM := Lib.hid hm
    have HBW := Lib.hid hbw
    have hsz := hbw.size
    clear hm hbw
    by_cases hlt : j < c
    · have hlt2 : (j : Int) < (c : Int) := by omega
      obtain ⟨q, hq⟩ : ∃ q, c - j = q + 1 := ⟨c - j - 1, by omega⟩
      have hq2 : q = c - (j + 1) := by omega
      have hk := HC.out wr a2 HBW.out (by omega)
      have ht := HT.out a2
      have hn2 := HNE.out a2
      have hf2 := HF.out a2
      have hg1 := HG.out
      have hg2 := HG2.out
      rw [hq] at hg1 hg2
      simp only [kidsE, List.nil_append] at hg1 hg2
      generalize T a2 = r at hk ht hn2 hf2 hg1 hg2
      obtain ⟨ys, a3⟩ := r
      dsimp only at hk ht hn2 hf2 hg1 hg2
      rw [← List.append_assoc, hq2] at hg1
      rw [hq2] at hg2
      obtain ⟨ht1, ht2⟩ := ht
      have HK := Lib.hid hk
      have HN2 := Lib.hid hn2
      have HF2 := Lib.hid hf2
      have HG3 := Lib.hid hg1
      have HG4 := Lib.hid hg2
      clear hk hn2 hf2 hg1 hg2 hq hq2
      go_wp2_with (first
        | (go_at_call 43; refine HK.out.mono ?_; rintro e w2 ⟨v2, rfl, ho2, hb2⟩; obtain ⟨g2, cap2, hv2, hI2⟩ := row_items (l := ys) ho2 HN2.out HF2.out (by omega); subst hv2; have HI2 := Lib.hid hI2; have HB2 := Lib.hid hb2; clear ho2 hI2 hb2)
        | (at_builtin; (refine app_items rfl _ _ rfl w.heap.size _ m xs ys w2.heap.size g2 0 cap2 (own_below HO.out HB2.out) rfl HI2.out rfl HN2.out (by omega) (by omega) (by have := HB2.out.size; omega) ?_); intro v3 w3 ho3 hb3)
        | fail)
      go_roundw
      case rel => exact ⟨j + 1, a3, m + ys.length, xs ++ ys, by omega, rfl, by go_num, by have := HM.out; simp; omega, by omega, by omega, Lib.hid ho3, (HBW.out.trans (HB2.out.mono hsz)).trans hb3, HG3, HG4⟩
      case measure => simp [intOf]; omega
    · obtain rfl : c = j := by omega
      have hlt2 : ¬ (c : Int) < (c : Int) := by omega
      go_wp2
      go_ret2
      have hg1 := HG.out
      have hg2 := HG2.out
      rw [Nat.sub_self] at hg1 hg2
      simp only [kidsE, List.append_nil] at hg1 hg2
      rw [← hg1, ← hg2]
      have hm := HM.out
      subst hm
      exact ⟨_, rfl, HO.out, HBW.out⟩
end Go.Proofs.YtepinmeidjlmmaaDoor
