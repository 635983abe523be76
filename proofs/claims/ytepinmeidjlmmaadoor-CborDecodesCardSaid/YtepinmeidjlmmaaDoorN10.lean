/- Joined: H6, H7, H8, H9. -/
import Derived.Test.YtepinmeidjlmmaaDoorN9
import Derived.Test.YtepinmeidjlmmaaDoorN8
/- A reader over any bytes: an item whose content is examined. -/
namespace Go.Proofs.YtepinmeidjlmmaaDoor
open Go.RowKit
set_option maxRecDepth 100000

theorem Box.set3 {W : World} {B : Nat} {k0 n0 k n : Int} {d0 d : ByteArray} (h : Box W B k0 n0 d0) : Box (((W.setCell ⟨B, 0, none⟩ (.int .i64 k)).setCell ⟨B, 1, none⟩ (.int .u64 n)).setCell ⟨B, 2, none⟩ (.string d)) B k n d := by
  unfold Box itemCs at h ⊢
  simp [World.setCell, Array.getElem?_modify, h]
theorem Box.far {W : World} {B B2 : Nat} {k n : Int} {d : ByteArray} (h : Box W B k n d) (hne : B ≠ B2) (j : Nat) (u : Value) : Box (W.setCell ⟨B2, j, none⟩ u) B k n d := (heap_setCell_other W _ B u hne).trans h
theorem Rd.far {w : World} {p : Nat} {A : Option Addr} {N cap a : Nat} (h : Rd w p A N cap a) {B : Nat} (hne : B ≠ p) (j : Nat) (u : Value) : Rd (w.setCell ⟨B, j, none⟩ u) p A N cap a :=
  ⟨(World.cell?_setCell_other _ _ _ _ (by simp <;> omega)).trans h.inp, (World.cell?_setCell_other _ _ _ _ (by simp <;> omega)).trans h.pos, (World.frozen?_setCell _ _ _ _).trans h.fr, h.hcap, h.hcm, h.hN, h.hat⟩
theorem gen_world {P : Program} {code : Code} {Q : Exit → Act → World → Prop} {a : Act} {W : World} (F : World → Prop) (h0 : F W) (h : ∀ W', F W' → Code.wp P code Q a W') : Code.wp P code Q a W := h W h0
theorem conv_bys {w : World} {A : Option Addr} {n cap : Nat} {zs : List Int} (h : Bys w A n zs) : (convert 25 9 (.slice A n cap)).run Tryd.prog w = .ok (.string (strOfNums zs)) w := by
  rcases A with _ | a
  · have hn : n = 0 := by
      rcases Nat.eq_zero_or_pos n with h0 | h0
      · exact h0
      · obtain ⟨_, e, _⟩ := h.at_ 0 h0
        cases e
    have hz : zs = [] := List.eq_nil_of_length_eq_zero (by rw [h.len, hn])
    subst hz
    subst hn
    exact run_convert_bytes_nil w 25 5 Tryd.underlying25 Tryd.underlying5 0 cap 9 Tryd.underlying9
  · exact run_convert_bytes_at w a n cap zs h.len fun i hi => by
      obtain ⟨a2, e, hc⟩ := h.at_ i hi
      cases e
      exact hc
theorem content_b {w : World} {p base c : Nat} {s : List Lv} {A : Option Addr} {N cap a : Nat} {zs : List Int} (h : RdS w p base c s A N cap a zs) (k n : Int) (d : ByteArray) {r : Int} (hr : contentE s k n d = r) (hn0 : 0 ≤ n) (hk0 : 1 ≤ k) (hk1 : k ≤ 8) (h7 : k = 7 → n ≤ 1) (hd : d.size ≤ 1100) :
    Calls Tryd.prog 58 #[.pointer (some ⟨p, 0, none⟩), itemV k n d] w fun e w' => e = .returned (.int .i64 r) ∧ Below w.heap.size w w' := by
  obtain ⟨v, hv⟩ := h.nest
  rw [← hr]
  exact content_any k n d w hv h.tabs hn0 hk0 hk1 h7 hd
/-- what is known ahead of the content's examination -/
structure Ahead (w W : World) (p base c : Nat) (s : List Lv) (A : Option Addr) (N cap a : Nat) (zs : List Int) (B : Nat) (k n : Int) (d : ByteArray) : Prop where
  rds : RdS W p base c s A N cap a zs
  box : Box W B k n d
  res : Box W w.heap.size 0 0 ⟨#[]⟩
  rf : RF p w W
  lt : w.heap.size < B
theorem Ahead.keep {w W W' : World} {p base c : Nat} {s : List Lv} {A : Option Addr} {N cap a : Nat} {zs : List Int} {B : Nat} {k n : Int} {d : ByteArray} (h : Ahead w W p base c s A N cap a zs B k n d) (hb : Below W.heap.size W W') : Ahead w W' p base c s A N cap a zs B k n d :=
  ⟨h.rds.keep hb, h.box.keep hb, h.res.keep hb, h.rf.trans (RF.of_below hb h.rds.plt), h.lt⟩
theorem RdS.far {w : World} {p base c : Nat} {s : List Lv} {A : Option Addr} {N cap a : Nat} {zs : List Int} (h : RdS w p base c s A N cap a zs) {w0 : World} (h0 : RdS w0 p base c s A N cap a zs) (hr : RF p w0 w) {B : Nat} (hB : w0.heap.size ≤ B) (hne : B ≠ p) (j : Nat) (u : Value) : RdS (w.setCell ⟨B, j, none⟩ u) p base c s A N cap a zs :=
  h0.rf (hr.setNew hB h0.plt j u) (h.rd.far hne j u)

set_option maxHeartbeats 2000000 in
theorem itm_data_err (p base c : Nat) (s : List Lv) (A : Option Addr) (N cap a a2 nn : Nat) (zs : List Int) (k n er : Int) (w : World) (h : RdS w p base c s A N cap a zs) (hh : headE zs N a = (k, n, 0, a2)) (hpl : placeE c s k = 0) (hL : tooLargeB k n = false) (hD : hasDataB k = true) (hn : a2 + nn ≤ N) (hnn : n = nn) (hn1 : nn ≤ 1024) (hk0 : 1 ≤ k) (hk1 : k ≤ 8) (hn0 : 0 ≤ n) (hk7 : k = 7 → (0 : Int) ≤ 1) (hE : contentE s k 0 (strOfNums ((zs.drop a2).take nn)) = er) (he : er ≠ 0) :
    Calls Tryd.prog 44 #[.pointer (some ⟨p, 0, none⟩)] w (ItemP p base c s A N cap zs (er, noIt, a) w) := by
  subst hnn
  have hp := h.plt
  have hb0 : Below w.heap.size w (w.alloc (.cells #[.int .i64 0, .int .u64 0, .string ⟨#[]⟩] 58)) := (Below.refl _ w).alloc (Nat.le_refl _) _
  have h0 := h.keep hb0
  have hH := hed_any p A N cap a zs _ h0.rd h0.by_
  rw [hh] at hH
  have HH := Lib.hid hH
  have HX := Lib.hid (Box.new w 0 0 ⟨#[]⟩)
  have HR0 := Lib.hid (RF.of_below hb0 hp)
  have HS0 := Lib.hid h0
  have HP := Lib.hid hpl
  have HL := Lib.hid hL
  have HD := Lib.hid hD
  have HE := Lib.hid hE
  have HN0 : (0 : Int) ≤ 0 := by omega
  have HK0 := hk0
  have HK1 := hk1
  have HK7 := Lib.hid hk7
  have hne : (er != 0) = true := by simpa using he
  have HDS : (strOfNums ((zs.drop a2).take nn)).size ≤ 1100 := by rw [strOfNums_size]; simp; omega
  generalize hD2 : strOfNums ((zs.drop a2).take nn) = D2 at *
  have HD2 := Lib.hid hD2
  clear hD2
  clear h h0 hH hb0 hh hpl hL hD hE hk7
  go_enter Tryd.func44, Tryd.ntmps44
  go_wp2_with (first
    | (go_at_call 64; refine HH.out.mono ?_; rintro e w2 ⟨rfl, hr2, hd2⟩; have hs2 := HS0.out.rf hr2 (hd2 rfl); have hx2 := HX.out.rf hr2 (by omega); have HR2 := Lib.hid hr2; have HS2 := Lib.hid hs2; have HX2 := Lib.hid hx2; clear hr2 hx2 hd2 hs2)
    | fail)
  refine (place_b HS2.out k HP.out).mono ?_
  rintro e w3 ⟨rfl, hb3⟩
  have hs3 := HS2.out.keep hb3
  have hx3 := HX2.out.keep hb3
  have HR3 := Lib.hid ((HR0.out.trans HR2.out).trans (RF.of_below hb3 HS2.out.plt))
  have HS3 := Lib.hid hs3
  have HX3 := Lib.hid hx3
  clear hb3 hs3 hx3
  go_wp2_with (first
    | (go_at_call 57; refine (tooLarge_any _ _ _).mono ?_; rintro e w4 ⟨rfl, rfl⟩; rw [HL.out])
    | (go_at_call 65; refine (hasData_any _ _).mono ?_; rintro e w5 ⟨rfl, rfl⟩; rw [HD.out])
    | fail)
  have hb4 : Below w3.heap.size w3 (w3.alloc (.cells #[.int .i64 k, .int .u64 nn, .string ⟨#[]⟩] 58)) := (Below.refl _ w3).alloc (Nat.le_refl _) _
  have hs4 := HS3.out.keep hb4
  refine (tak_yes p A N cap a2 nn _ hs4.rd hn).mono ?_
  rintro e w5 ⟨rfl, hr5, hd5⟩
  have hs5 := hs4.rf hr5 hd5
  have hcv := conv_bys (cap := cap - a2) (hs5.by_.1.cut a2 nn hn hs5.rd.hcap)
  rw [HD2.out] at hcv
  have hbx := (Box.new w3 k nn ⟨#[]⟩).rf hr5 (by have := HS3.out.plt; omega)
  have hx5 := (HX3.out.keep hb4).rf hr5 (by omega)
  have hr35 := (RF.of_below hb4 HS3.out.plt).trans hr5
  have hw3 := HX3.out.lt
  have hp3 := HS3.out.plt
  have HS5 := Lib.hid hs5
  have HBX := Lib.hid hbx
  have HX5 := Lib.hid hx5
  have HR35 := Lib.hid hr35
  obtain ⟨g0, g1, g2, u0, u1, u2⟩ := hbx.cells
  clear hb4 hs4 hr5 hd5 hs5 hbx hx5 hr35
  go_wp2
  refine gen_world (fun W => Ahead w W p base c s A N cap (a2 + nn) zs w3.heap.size k 0 D2 ∧ (∀ W0 : World, True)) ⟨⟨?_, HBX.out.set3, ?_, ?_, hw3⟩, fun _ => trivial⟩ ?_
  · exact HS3.out.rf (((HR35.out.setNew (Nat.le_refl _) hp3 _ _).setNew (Nat.le_refl _) hp3 _ _).setNew (Nat.le_refl _) hp3 _ _) (((HS5.out.rd.far (by omega) _ _).far (by omega) _ _).far (by omega) _ _)
  · exact ((HX5.out.far (by omega) _ _).far (by omega) _ _).far (by omega) _ _
  · exact HR3.out.trans (((HR35.out.setNew (Nat.le_refl _) hp3 _ _).setNew (Nat.le_refl _) hp3 _ _).setNew (Nat.le_refl _) hp3 _ _)
  intro w6 ⟨ha, _⟩
  have HA := Lib.hid ha
  clear ha g0 g1 g2 u0 u1 u2 hcv
  refine held_begin (by kernel_rfl) ?_
  refine held_take (i := 0) (v := ?_) rfl rfl (by kernel_rfl) (by kernel_rfl) (by kernel_rfl) (fun _ _ _ h => h) (by rfl) ?_ ?_
  rotate_left
  · intro W hW
    go_simp
    try with_reducible rfl
  simp only [Act.put, List.setIfInBounds_toArray, List.set_cons_zero, List.set_cons_succ]
  refine held_take (i := 1) (v := ?_) rfl rfl (by kernel_rfl) (by kernel_rfl) (by kernel_rfl) (fun _ _ _ h => h) (by rfl) ?_ ?_
  rotate_left
  · intro W hW
    go_simp
    try with_reducible rfl
  simp only [Act.put, List.setIfInBounds_toArray, List.set_cons_zero, List.set_cons_succ]
  refine held_take (i := 2) (v := ?_) rfl rfl (by kernel_rfl) (by kernel_rfl) (by kernel_rfl) (fun _ _ _ h => h) (by rfl) ?_ ?_
  rotate_left
  · intro W hW
    go_simp
    try with_reducible rfl
  simp only [Act.put, List.setIfInBounds_toArray, List.set_cons_zero, List.set_cons_succ]
  refine held_take (i := 3) (v := ?_) rfl rfl (by kernel_rfl) (by kernel_rfl) (by kernel_rfl) (fun _ _ _ h => h) (by rfl) ?_ ?_
  rotate_left
  · intro W hW
    obtain ⟨q0, q1, q2, _, _, _⟩ := ((HA.out.keep (⟨rfl, rfl, rfl, Nat.le_refl _, fun _ _ => rfl⟩ : Below w6.heap.size w6 w6.drew)).box.keep hW).cells
    go_simp
    try with_reducible rfl
  simp only [Act.put, List.setIfInBounds_toArray, List.set_cons_zero, List.set_cons_succ]
  refine held_call (i := 4) (by kernel_rfl) rfl (fun K' hK => ?_)
  go_simp
  refine (content_b (HA.out.keep (⟨rfl, rfl, rfl, Nat.le_refl _, fun _ _ => rfl⟩ : Below w6.heap.size w6 w6.drew)).rds k 0 D2 HE.out HN0 HK0 HK1 HK7.out HDS).mono ?_
  rintro e w7 ⟨rfl, hb⟩
  refine hK.out _ _ hb ?_
  clear hK K'
  have HA7 := Lib.hid ((HA.out.keep (⟨rfl, rfl, rfl, Nat.le_refl _, fun _ _ => rfl⟩ : Below w6.heap.size w6 w6.drew)).keep hb)
  clear hb
  refine held_take (i := 5) (v := ?_) rfl rfl (by kernel_rfl) (by kernel_rfl) (by kernel_rfl) (fun _ _ _ h => h) (by rfl) ?_ ?_
  rotate_left
  · intro W hW
    go_simp
    try with_reducible rfl
  simp only [Act.put, List.setIfInBounds_toArray, List.set_cons_zero, List.set_cons_succ]
  refine wpAnyH_done (by kernel_rfl) ?_ _
  obtain ⟨y0, y1, y2, f0, f1, f2⟩ := HA7.out.res.cells
  go_wp2
  refine bodyPost_ret (v := .tuple #[itemV 0 0 ⟨#[]⟩, .int .i64 er]) (by simp [results, Tryd.results44, go_sem, y0, y1, y2]) rfl ⟨rfl, ?_, fun h0 => absurd h0 he⟩
  exact ((HA7.out.rf.setNew (Nat.le_refl _) hp _ _).setNew (Nat.le_refl _) hp _ _).setNew (Nat.le_refl _) hp _ _

set_option maxHeartbeats 2000000 in
theorem itm_plain_err (p base c : Nat) (s : List Lv) (A : Option Addr) (N cap a a2 : Nat) (zs : List Int) (k n er : Int) (w : World) (h : RdS w p base c s A N cap a zs) (hh : headE zs N a = (k, n, 0, a2)) (hpl : placeE c s k = 0) (hL : tooLargeB k n = false) (hD : hasDataB k = false) (hk0 : 1 ≤ k) (hk1 : k ≤ 8) (hn0 : 0 ≤ n) (hk7 : k = 7 → (n : Int) ≤ 1) (hE : contentE s k n ⟨#[]⟩ = er) (he : er ≠ 0) :
    Calls Tryd.prog 44 #[.pointer (some ⟨p, 0, none⟩)] w (ItemP p base c s A N cap zs (er, noIt, a) w) := by
  have hp := h.plt
  have hb0 : Below w.heap.size w (w.alloc (.cells #[.int .i64 0, .int .u64 0, .string ⟨#[]⟩] 58)) := (Below.refl _ w).alloc (Nat.le_refl _) _
  have h0 := h.keep hb0
  have hH := hed_any p A N cap a zs _ h0.rd h0.by_
  rw [hh] at hH
  have HH := Lib.hid hH
  have HX := Lib.hid (Box.new w 0 0 ⟨#[]⟩)
  have HR0 := Lib.hid (RF.of_below hb0 hp)
  have HS0 := Lib.hid h0
  have HP := Lib.hid hpl
  have HL := Lib.hid hL
  have HD := Lib.hid hD
  have HE := Lib.hid hE
  have HN0 : (0 : Int) ≤ n := by omega
  have HK0 := hk0
  have HK1 := hk1
  have HK7 := Lib.hid hk7
  have hne : (er != 0) = true := by simpa using he
  have HDS : (⟨#[]⟩ : ByteArray).size ≤ 1100 := by decide
  clear h h0 hH hb0 hh hpl hL hD hE hk7
  go_enter Tryd.func44, Tryd.ntmps44
  go_wp2_with (first
    | (go_at_call 64; refine HH.out.mono ?_; rintro e w2 ⟨rfl, hr2, hd2⟩; have hs2 := HS0.out.rf hr2 (hd2 rfl); have hx2 := HX.out.rf hr2 (by omega); have HR2 := Lib.hid hr2; have HS2 := Lib.hid hs2; have HX2 := Lib.hid hx2; clear hr2 hx2 hd2 hs2)
    | fail)
  refine (place_b HS2.out k HP.out).mono ?_
  rintro e w3 ⟨rfl, hb3⟩
  have hs3 := HS2.out.keep hb3
  have hx3 := HX2.out.keep hb3
  have HR3 := Lib.hid ((HR0.out.trans HR2.out).trans (RF.of_below hb3 HS2.out.plt))
  have HS3 := Lib.hid hs3
  have HX3 := Lib.hid hx3
  clear hb3 hs3 hx3
  go_wp2_with (first
    | (go_at_call 57; refine (tooLarge_any _ _ _).mono ?_; rintro e w4 ⟨rfl, rfl⟩; rw [HL.out])
    | (go_at_call 65; refine (hasData_any _ _).mono ?_; rintro e w5 ⟨rfl, rfl⟩; rw [HD.out])
    | fail)
  have hw3 := HX3.out.lt
  refine gen_world (fun W => Ahead w W p base c s A N cap a2 zs w3.heap.size k n ⟨#[]⟩) ?_ ?_
  · have hb4 : Below w3.heap.size w3 (w3.alloc (.cells #[.int .i64 k, .int .u64 n, .string ⟨#[]⟩] 58)) := (Below.refl _ w3).alloc (Nat.le_refl _) _
    exact ⟨HS3.out.keep hb4, Box.new w3 k n ⟨#[]⟩, HX3.out.keep hb4, HR3.out.trans (RF.of_below hb4 HS3.out.plt), hw3⟩
  intro w6 ha
  have HA := Lib.hid ha
  clear ha
  refine held_begin (by kernel_rfl) ?_
  refine held_take (i := 0) (v := ?_) rfl rfl (by kernel_rfl) (by kernel_rfl) (by kernel_rfl) (fun _ _ _ h => h) (by rfl) ?_ ?_
  rotate_left
  · intro W hW
    go_simp
    try with_reducible rfl
  simp only [Act.put, List.setIfInBounds_toArray, List.set_cons_zero, List.set_cons_succ]
  refine held_take (i := 1) (v := ?_) rfl rfl (by kernel_rfl) (by kernel_rfl) (by kernel_rfl) (fun _ _ _ h => h) (by rfl) ?_ ?_
  rotate_left
  · intro W hW
    go_simp
    try with_reducible rfl
  simp only [Act.put, List.setIfInBounds_toArray, List.set_cons_zero, List.set_cons_succ]
  refine held_take (i := 2) (v := ?_) rfl rfl (by kernel_rfl) (by kernel_rfl) (by kernel_rfl) (fun _ _ _ h => h) (by rfl) ?_ ?_
  rotate_left
  · intro W hW
    go_simp
    try with_reducible rfl
  simp only [Act.put, List.setIfInBounds_toArray, List.set_cons_zero, List.set_cons_succ]
  refine held_take (i := 3) (v := ?_) rfl rfl (by kernel_rfl) (by kernel_rfl) (by kernel_rfl) (fun _ _ _ h => h) (by rfl) ?_ ?_
  rotate_left
  · intro W hW
    obtain ⟨q0, q1, q2, _, _, _⟩ := ((HA.out.keep (⟨rfl, rfl, rfl, Nat.le_refl _, fun _ _ => rfl⟩ : Below w6.heap.size w6 w6.drew)).box.keep hW).cells
    go_simp
    try with_reducible rfl
  simp only [Act.put, List.setIfInBounds_toArray, List.set_cons_zero, List.set_cons_succ]
  refine held_call (i := 4) (by kernel_rfl) rfl (fun K' hK => ?_)
  go_simp
  refine (content_b (HA.out.keep (⟨rfl, rfl, rfl, Nat.le_refl _, fun _ _ => rfl⟩ : Below w6.heap.size w6 w6.drew)).rds k n ⟨#[]⟩ HE.out HN0 HK0 HK1 HK7.out HDS).mono ?_
  rintro e w7 ⟨rfl, hb⟩
  refine hK.out _ _ hb ?_
  clear hK K'
  have HA7 := Lib.hid ((HA.out.keep (⟨rfl, rfl, rfl, Nat.le_refl _, fun _ _ => rfl⟩ : Below w6.heap.size w6 w6.drew)).keep hb)
  clear hb
  refine held_take (i := 5) (v := ?_) rfl rfl (by kernel_rfl) (by kernel_rfl) (by kernel_rfl) (fun _ _ _ h => h) (by rfl) ?_ ?_
  rotate_left
  · intro W hW
    go_simp
    try with_reducible rfl
  simp only [Act.put, List.setIfInBounds_toArray, List.set_cons_zero, List.set_cons_succ]
  refine wpAnyH_done (by kernel_rfl) ?_ _
  obtain ⟨y0, y1, y2, f0, f1, f2⟩ := HA7.out.res.cells
  go_wp2
  refine bodyPost_ret (v := .tuple #[itemV 0 0 ⟨#[]⟩, .int .i64 er]) (by simp [results, Tryd.results44, go_sem, y0, y1, y2]) rfl ⟨rfl, ?_, fun h0 => absurd h0 he⟩
  exact ((HA7.out.rf.setNew (Nat.le_refl _) hp _ _).setNew (Nat.le_refl _) hp _ _).setNew (Nat.le_refl _) hp _ _

set_option maxHeartbeats 2000000 in
theorem itm_data_ok (p base c : Nat) (s : List Lv) (A : Option Addr) (N cap a a2 nn : Nat) (zs : List Int) (k n : Int) (w : World) (h : RdS w p base c s A N cap a zs) (hh : headE zs N a = (k, n, 0, a2)) (hpl : placeE c s k = 0) (hL : tooLargeB k n = false) (hD : hasDataB k = true) (hn : a2 + nn ≤ N) (hnn : n = nn) (hn1 : nn ≤ 1024) (hk0 : 1 ≤ k) (hk1 : k ≤ 8) (hn0 : 0 ≤ n) (hk7 : k = 7 → (0 : Int) ≤ 1) (hE : contentE s k 0 (strOfNums ((zs.drop a2).take nn)) = 0) :
    Calls Tryd.prog 44 #[.pointer (some ⟨p, 0, none⟩)] w (ItemP p base c s A N cap zs (0, ⟨k, 0, (strOfNums ((zs.drop a2).take nn))⟩, (a2 + nn)) w) := by
  subst hnn
  have hp := h.plt
  have hb0 : Below w.heap.size w (w.alloc (.cells #[.int .i64 0, .int .u64 0, .string ⟨#[]⟩] 58)) := (Below.refl _ w).alloc (Nat.le_refl _) _
  have h0 := h.keep hb0
  have hH := hed_any p A N cap a zs _ h0.rd h0.by_
  rw [hh] at hH
  have HH := Lib.hid hH
  have HX := Lib.hid (Box.new w 0 0 ⟨#[]⟩)
  have HR0 := Lib.hid (RF.of_below hb0 hp)
  have HS0 := Lib.hid h0
  have HP := Lib.hid hpl
  have HL := Lib.hid hL
  have HD := Lib.hid hD
  have HE := Lib.hid hE
  have HN0 : (0 : Int) ≤ 0 := by omega
  have HK0 := hk0
  have HK1 := hk1
  have HK7 := Lib.hid hk7
  have HDS : (strOfNums ((zs.drop a2).take nn)).size ≤ 1100 := by rw [strOfNums_size]; simp; omega
  generalize hD2 : strOfNums ((zs.drop a2).take nn) = D2 at *
  have HD2 := Lib.hid hD2
  clear hD2
  have HWW := Lib.hid h
  clear h h0 hH hb0 hh hpl hL hD hE hk7
  go_enter Tryd.func44, Tryd.ntmps44
  go_wp2_with (first
    | (go_at_call 64; refine HH.out.mono ?_; rintro e w2 ⟨rfl, hr2, hd2⟩; have hs2 := HS0.out.rf hr2 (hd2 rfl); have hx2 := HX.out.rf hr2 (by omega); have HR2 := Lib.hid hr2; have HS2 := Lib.hid hs2; have HX2 := Lib.hid hx2; clear hr2 hx2 hd2 hs2)
    | fail)
  refine (place_b HS2.out k HP.out).mono ?_
  rintro e w3 ⟨rfl, hb3⟩
  have hs3 := HS2.out.keep hb3
  have hx3 := HX2.out.keep hb3
  have HR3 := Lib.hid ((HR0.out.trans HR2.out).trans (RF.of_below hb3 HS2.out.plt))
  have HS3 := Lib.hid hs3
  have HX3 := Lib.hid hx3
  clear hb3 hs3 hx3
  go_wp2_with (first
    | (go_at_call 57; refine (tooLarge_any _ _ _).mono ?_; rintro e w4 ⟨rfl, rfl⟩; rw [HL.out])
    | (go_at_call 65; refine (hasData_any _ _).mono ?_; rintro e w5 ⟨rfl, rfl⟩; rw [HD.out])
    | fail)
  have hb4 : Below w3.heap.size w3 (w3.alloc (.cells #[.int .i64 k, .int .u64 nn, .string ⟨#[]⟩] 58)) := (Below.refl _ w3).alloc (Nat.le_refl _) _
  have hs4 := HS3.out.keep hb4
  refine (tak_yes p A N cap a2 nn _ hs4.rd hn).mono ?_
  rintro e w5 ⟨rfl, hr5, hd5⟩
  have hs5 := hs4.rf hr5 hd5
  have hcv := conv_bys (cap := cap - a2) (hs5.by_.1.cut a2 nn hn hs5.rd.hcap)
  rw [HD2.out] at hcv
  have hbx := (Box.new w3 k nn ⟨#[]⟩).rf hr5 (by have := HS3.out.plt; omega)
  have hx5 := (HX3.out.keep hb4).rf hr5 (by omega)
  have hr35 := (RF.of_below hb4 HS3.out.plt).trans hr5
  have hw3 := HX3.out.lt
  have hp3 := HS3.out.plt
  have HS5 := Lib.hid hs5
  have HBX := Lib.hid hbx
  have HX5 := Lib.hid hx5
  have HR35 := Lib.hid hr35
  obtain ⟨g0, g1, g2, u0, u1, u2⟩ := hbx.cells
  clear hb4 hs4 hr5 hd5 hs5 hbx hx5 hr35
  go_wp2
  refine gen_world (fun W => Ahead w W p base c s A N cap (a2 + nn) zs w3.heap.size k 0 D2 ∧ (∀ W0 : World, True)) ⟨⟨?_, HBX.out.set3, ?_, ?_, hw3⟩, fun _ => trivial⟩ ?_
  · exact HS3.out.rf (((HR35.out.setNew (Nat.le_refl _) hp3 _ _).setNew (Nat.le_refl _) hp3 _ _).setNew (Nat.le_refl _) hp3 _ _) (((HS5.out.rd.far (by omega) _ _).far (by omega) _ _).far (by omega) _ _)
  · exact ((HX5.out.far (by omega) _ _).far (by omega) _ _).far (by omega) _ _
  · exact HR3.out.trans (((HR35.out.setNew (Nat.le_refl _) hp3 _ _).setNew (Nat.le_refl _) hp3 _ _).setNew (Nat.le_refl _) hp3 _ _)
  intro w6 ⟨ha, _⟩
  have HA := Lib.hid ha
  clear ha g0 g1 g2 u0 u1 u2 hcv
  refine held_begin (by kernel_rfl) ?_
  refine held_take (i := 0) (v := ?_) rfl rfl (by kernel_rfl) (by kernel_rfl) (by kernel_rfl) (fun _ _ _ h => h) (by rfl) ?_ ?_
  rotate_left
  · intro W hW
    go_simp
    try with_reducible rfl
  simp only [Act.put, List.setIfInBounds_toArray, List.set_cons_zero, List.set_cons_succ]
  refine held_take (i := 1) (v := ?_) rfl rfl (by kernel_rfl) (by kernel_rfl) (by kernel_rfl) (fun _ _ _ h => h) (by rfl) ?_ ?_
  rotate_left
  · intro W hW
    go_simp
    try with_reducible rfl
  simp only [Act.put, List.setIfInBounds_toArray, List.set_cons_zero, List.set_cons_succ]
  refine held_take (i := 2) (v := ?_) rfl rfl (by kernel_rfl) (by kernel_rfl) (by kernel_rfl) (fun _ _ _ h => h) (by rfl) ?_ ?_
  rotate_left
  · intro W hW
    go_simp
    try with_reducible rfl
  simp only [Act.put, List.setIfInBounds_toArray, List.set_cons_zero, List.set_cons_succ]
  refine held_take (i := 3) (v := ?_) rfl rfl (by kernel_rfl) (by kernel_rfl) (by kernel_rfl) (fun _ _ _ h => h) (by rfl) ?_ ?_
  rotate_left
  · intro W hW
    obtain ⟨q0, q1, q2, _, _, _⟩ := ((HA.out.keep (⟨rfl, rfl, rfl, Nat.le_refl _, fun _ _ => rfl⟩ : Below w6.heap.size w6 w6.drew)).box.keep hW).cells
    go_simp
    try with_reducible rfl
  simp only [Act.put, List.setIfInBounds_toArray, List.set_cons_zero, List.set_cons_succ]
  refine held_call (i := 4) (by kernel_rfl) rfl (fun K' hK => ?_)
  go_simp
  refine (content_b (HA.out.keep (⟨rfl, rfl, rfl, Nat.le_refl _, fun _ _ => rfl⟩ : Below w6.heap.size w6 w6.drew)).rds k 0 D2 HE.out HN0 HK0 HK1 HK7.out HDS).mono ?_
  rintro e w7 ⟨rfl, hb⟩
  refine hK.out _ _ hb ?_
  clear hK K'
  have HA7 := Lib.hid ((HA.out.keep (⟨rfl, rfl, rfl, Nat.le_refl _, fun _ _ => rfl⟩ : Below w6.heap.size w6 w6.drew)).keep hb)
  clear hb
  refine held_take (i := 5) (v := ?_) rfl rfl (by kernel_rfl) (by kernel_rfl) (by kernel_rfl) (fun _ _ _ h => h) (by rfl) ?_ ?_
  rotate_left
  · intro W hW
    go_simp
    try with_reducible rfl
  simp only [Act.put, List.setIfInBounds_toArray, List.set_cons_zero, List.set_cons_succ]
  refine wpAnyH_done (by kernel_rfl) ?_ _
  obtain ⟨y0, y1, y2, f0, f1, f2⟩ := HA7.out.res.cells
  obtain ⟨z0, z1, z2, _, _, _⟩ := HA7.out.box.cells
  go_wp2
  refine bodyPost_ret (v := .tuple #[itemV k 0 D2, .int .i64 0]) (by simp [results, Tryd.results44, go_sem, y0, y1, y2]) rfl ⟨rfl, ?_, fun _ => ?_⟩
  · exact ((HA7.out.rf.setNew (Nat.le_refl _) hp _ _).setNew (Nat.le_refl _) hp _ _).setNew (Nat.le_refl _) hp _ _
  · exact HWW.out.rf (((HA7.out.rf.setNew (Nat.le_refl _) hp _ _).setNew (Nat.le_refl _) hp _ _).setNew (Nat.le_refl _) hp _ _) (((HA7.out.rds.rd.far (by omega) _ _).far (by omega) _ _).far (by omega) _ _)

set_option maxHeartbeats 2000000 in
theorem itm_plain_ok (p base c : Nat) (s : List Lv) (A : Option Addr) (N cap a a2 : Nat) (zs : List Int) (k n : Int) (w : World) (h : RdS w p base c s A N cap a zs) (hh : headE zs N a = (k, n, 0, a2)) (hpl : placeE c s k = 0) (hL : tooLargeB k n = false) (hD : hasDataB k = false) (hk0 : 1 ≤ k) (hk1 : k ≤ 8) (hn0 : 0 ≤ n) (hk7 : k = 7 → (n : Int) ≤ 1) (hE : contentE s k n ⟨#[]⟩ = 0) :
    Calls Tryd.prog 44 #[.pointer (some ⟨p, 0, none⟩)] w (ItemP p base c s A N cap zs (0, ⟨k, n, ⟨#[]⟩⟩, a2) w) := by
  have hp := h.plt
  have hb0 : Below w.heap.size w (w.alloc (.cells #[.int .i64 0, .int .u64 0, .string ⟨#[]⟩] 58)) := (Below.refl _ w).alloc (Nat.le_refl _) _
  have h0 := h.keep hb0
  have hH := hed_any p A N cap a zs _ h0.rd h0.by_
  rw [hh] at hH
  have HH := Lib.hid hH
  have HX := Lib.hid (Box.new w 0 0 ⟨#[]⟩)
  have HR0 := Lib.hid (RF.of_below hb0 hp)
  have HS0 := Lib.hid h0
  have HP := Lib.hid hpl
  have HL := Lib.hid hL
  have HD := Lib.hid hD
  have HE := Lib.hid hE
  have HN0 : (0 : Int) ≤ n := by omega
  have HK0 := hk0
  have HK1 := hk1
  have HK7 := Lib.hid hk7
  have HDS : (⟨#[]⟩ : ByteArray).size ≤ 1100 := by decide
  have HWW := Lib.hid h
  clear h h0 hH hb0 hh hpl hL hD hE hk7
  go_enter Tryd.func44, Tryd.ntmps44
  go_wp2_with (first
    | (go_at_call 64; refine HH.out.mono ?_; rintro e w2 ⟨rfl, hr2, hd2⟩; have hs2 := HS0.out.rf hr2 (hd2 rfl); have hx2 := HX.out.rf hr2 (by omega); have HR2 := Lib.hid hr2; have HS2 := Lib.hid hs2; have HX2 := Lib.hid hx2; clear hr2 hx2 hd2 hs2)
    | fail)
  refine (place_b HS2.out k HP.out).mono ?_
  rintro e w3 ⟨rfl, hb3⟩
  have hs3 := HS2.out.keep hb3
  have hx3 := HX2.out.keep hb3
  have HR3 := Lib.hid ((HR0.out.trans HR2.out).trans (RF.of_below hb3 HS2.out.plt))
  have HS3 := Lib.hid hs3
  have HX3 := Lib.hid hx3
  clear hb3 hs3 hx3
  go_wp2_with (first
    | (go_at_call 57; refine (tooLarge_any _ _ _).mono ?_; rintro e w4 ⟨rfl, rfl⟩; rw [HL.out])
    | (go_at_call 65; refine (hasData_any _ _).mono ?_; rintro e w5 ⟨rfl, rfl⟩; rw [HD.out])
    | fail)
  have hw3 := HX3.out.lt
  refine gen_world (fun W => Ahead w W p base c s A N cap a2 zs w3.heap.size k n ⟨#[]⟩) ?_ ?_
  · have hb4 : Below w3.heap.size w3 (w3.alloc (.cells #[.int .i64 k, .int .u64 n, .string ⟨#[]⟩] 58)) := (Below.refl _ w3).alloc (Nat.le_refl _) _
    exact ⟨HS3.out.keep hb4, Box.new w3 k n ⟨#[]⟩, HX3.out.keep hb4, HR3.out.trans (RF.of_below hb4 HS3.out.plt), hw3⟩
  intro w6 ha
  have HA := Lib.hid ha
  clear ha
  refine held_begin (by kernel_rfl) ?_
  refine held_take (i := 0) (v := ?_) rfl rfl (by kernel_rfl) (by kernel_rfl) (by kernel_rfl) (fun _ _ _ h => h) (by rfl) ?_ ?_
  rotate_left
  · intro W hW
    go_simp
    try with_reducible rfl
  simp only [Act.put, List.setIfInBounds_toArray, List.set_cons_zero, List.set_cons_succ]
  refine held_take (i := 1) (v := ?_) rfl rfl (by kernel_rfl) (by kernel_rfl) (by kernel_rfl) (fun _ _ _ h => h) (by rfl) ?_ ?_
  rotate_left
  · intro W hW
    go_simp
    try with_reducible rfl
  simp only [Act.put, List.setIfInBounds_toArray, List.set_cons_zero, List.set_cons_succ]
  refine held_take (i := 2) (v := ?_) rfl rfl (by kernel_rfl) (by kernel_rfl) (by kernel_rfl) (fun _ _ _ h => h) (by rfl) ?_ ?_
  rotate_left
  · intro W hW
    go_simp
    try with_reducible rfl
  simp only [Act.put, List.setIfInBounds_toArray, List.set_cons_zero, List.set_cons_succ]
  refine held_take (i := 3) (v := ?_) rfl rfl (by kernel_rfl) (by kernel_rfl) (by kernel_rfl) (fun _ _ _ h => h) (by rfl) ?_ ?_
  rotate_left
  · intro W hW
    obtain ⟨q0, q1, q2, _, _, _⟩ := ((HA.out.keep (⟨rfl, rfl, rfl, Nat.le_refl _, fun _ _ => rfl⟩ : Below w6.heap.size w6 w6.drew)).box.keep hW).cells
    go_simp
    try with_reducible rfl
  simp only [Act.put, List.setIfInBounds_toArray, List.set_cons_zero, List.set_cons_succ]
  refine held_call (i := 4) (by kernel_rfl) rfl (fun K' hK => ?_)
  go_simp
  refine (content_b (HA.out.keep (⟨rfl, rfl, rfl, Nat.le_refl _, fun _ _ => rfl⟩ : Below w6.heap.size w6 w6.drew)).rds k n ⟨#[]⟩ HE.out HN0 HK0 HK1 HK7.out HDS).mono ?_
  rintro e w7 ⟨rfl, hb⟩
  refine hK.out _ _ hb ?_
  clear hK K'
  have HA7 := Lib.hid ((HA.out.keep (⟨rfl, rfl, rfl, Nat.le_refl _, fun _ _ => rfl⟩ : Below w6.heap.size w6 w6.drew)).keep hb)
  clear hb
  refine held_take (i := 5) (v := ?_) rfl rfl (by kernel_rfl) (by kernel_rfl) (by kernel_rfl) (fun _ _ _ h => h) (by rfl) ?_ ?_
  rotate_left
  · intro W hW
    go_simp
    try with_reducible rfl
  simp only [Act.put, List.setIfInBounds_toArray, List.set_cons_zero, List.set_cons_succ]
  refine wpAnyH_done (by kernel_rfl) ?_ _
  obtain ⟨y0, y1, y2, f0, f1, f2⟩ := HA7.out.res.cells
  obtain ⟨z0, z1, z2, _, _, _⟩ := HA7.out.box.cells
  go_wp2
  refine bodyPost_ret (v := .tuple #[itemV k n ⟨#[]⟩, .int .i64 0]) (by simp [results, Tryd.results44, go_sem, y0, y1, y2]) rfl ⟨rfl, ?_, fun _ => ?_⟩
  · exact ((HA7.out.rf.setNew (Nat.le_refl _) hp _ _).setNew (Nat.le_refl _) hp _ _).setNew (Nat.le_refl _) hp _ _
  · exact HWW.out.rf (((HA7.out.rf.setNew (Nat.le_refl _) hp _ _).setNew (Nat.le_refl _) hp _ _).setNew (Nat.le_refl _) hp _ _) (((HA7.out.rds.rd.far (by omega) _ _).far (by omega) _ _).far (by omega) _ _)

end Go.Proofs.YtepinmeidjlmmaaDoor

/- A reader over any bytes: the item as one contract. -/
namespace Go.Proofs.YtepinmeidjlmmaaDoor
open Go.RowKit
set_option maxRecDepth 100000

/-- the item at a behind its head: error, item, the place behind it -/
def bodyE (zs : List Int) (N c : Nat) (s : List Lv) (a : Nat) (h : Int × Int × Int × Nat) : Int × It × Nat :=
  if h.2.2.1 ≠ 0 then (h.2.2.1, noIt, a)
  else if placeE c s h.1 ≠ 0 then (placeE c s h.1, noIt, a)
  else if tooLargeB h.1 h.2.1 = true then (8, noIt, a)
  else if hasDataB h.1 = true then
    (if (N : Int) < h.2.2.2 + h.2.1 then (1, noIt, a)
     else if contentE s h.1 0 (strOfNums ((zs.drop h.2.2.2).take h.2.1.toNat)) ≠ 0 then (contentE s h.1 0 (strOfNums ((zs.drop h.2.2.2).take h.2.1.toNat)), noIt, a)
     else (0, ⟨h.1, 0, strOfNums ((zs.drop h.2.2.2).take h.2.1.toNat)⟩, h.2.2.2 + h.2.1.toNat))
  else if contentE s h.1 h.2.1 ⟨#[]⟩ ≠ 0 then (contentE s h.1 h.2.1 ⟨#[]⟩, noIt, a)
  else (0, ⟨h.1, h.2.1, ⟨#[]⟩⟩, h.2.2.2)
def itemE (zs : List Int) (N c : Nat) (s : List Lv) (a : Nat) : Int × It × Nat := bodyE zs N c s a (headE zs N a)

theorem data_le {k n : Int} (h : tooLargeB k n = false) (hd : hasDataB k = true) : n ≤ 1024 := by
  unfold tooLargeB at h
  simp [hd] at h
  exact h.1

theorem itm_any (p base c : Nat) (s : List Lv) (A : Option Addr) (N cap a : Nat) (zs : List Int) (w : World) (h : RdS w p base c s A N cap a zs) :
    Calls Tryd.prog 44 #[.pointer (some ⟨p, 0, none⟩)] w (ItemP p base c s A N cap zs (itemE zs N c s a) w) := by
  unfold itemE
  obtain ⟨k, n, er, a2, hh⟩ : ∃ k n er a2, headE zs N a = (k, n, er, a2) := ⟨_, _, _, _, rfl⟩
  rw [hh]
  unfold bodyE
  dsimp only
  by_cases he : er = 0
  · subst he
    rw [if_neg (by simp)]
    obtain ⟨k1, k8, n0, n64, h7, _, hlt, hle⟩ := head_ok h.by_.1.rng h.by_.1.len hh
    by_cases hp : placeE c s k = 0
    · rw [if_neg (by simp [hp])]
      by_cases hL : tooLargeB k n = true
      · rw [if_pos hL]
        exact itm_large p base c s A N cap a a2 zs k n w h hh hp hL
      rw [if_neg hL]
      have hL' : tooLargeB k n = false := by simpa using hL
      by_cases hD : hasDataB k = true
      · rw [if_pos hD]
        by_cases hs : (N : Int) < a2 + n
        · rw [if_pos hs]
          exact itm_short p base c s A N cap a a2 zs k n w h hh hp hL' hD hs n64
        rw [if_neg hs]
        have hn1 := data_le hL' hD
        obtain ⟨nn, rfl⟩ := Int.eq_ofNat_of_zero_le n0
        rw [Int.toNat_natCast]
        by_cases hE : contentE s k 0 (strOfNums ((zs.drop a2).take nn)) = 0
        · rw [if_neg (by simp [hE])]
          exact itm_data_ok p base c s A N cap a a2 nn zs k nn w h hh hp hL' hD (by omega) rfl (by omega) k1 k8 n0 (fun _ => by omega) hE
        · rw [if_pos hE]
          exact itm_data_err p base c s A N cap a a2 nn zs k nn _ w h hh hp hL' hD (by omega) rfl (by omega) k1 k8 n0 (fun _ => by omega) rfl hE
      rw [if_neg hD]
      have hD' : hasDataB k = false := by simpa using hD
      by_cases hE : contentE s k n ⟨#[]⟩ = 0
      · rw [if_neg (by simp [hE])]
        exact itm_plain_ok p base c s A N cap a a2 zs k n w h hh hp hL' hD' k1 k8 n0 h7 hE
      · rw [if_pos hE]
        exact itm_plain_err p base c s A N cap a a2 zs k n _ w h hh hp hL' hD' k1 k8 n0 h7 rfl hE
    · rw [if_pos hp]
      exact itm_place p base c s A N cap a a2 zs k n _ w h hh rfl hp
  · rw [if_pos he]
    exact itm_head p base c s A N cap a a2 zs k n er w h hh he

theorem shape_head {k n : Int} (h8 : k = 8 → n = 0) (h7 : k = 7 → n ≤ 1) (hD : hasDataB k = false) : shapeB k n ⟨#[]⟩ = true := by
  unfold hasDataB at hD
  simp at hD
  rw [shape_sw (by rintro ⟨h, _⟩; rw [Lib.toList_data] at h; cases h)]
  by_cases e8 : k = 8
  · rw [if_pos (by omega), h8 e8]; rfl
  · rw [if_neg (by omega)]
    by_cases e7 : k = 7
    · rw [if_pos e7]; simpa using h7 e7
    · rw [if_neg e7]
theorem shape_data {k : Int} (d : ByteArray) (hD : hasDataB k = true) : shapeB k 0 d = true := by
  have h34 : k = 3 ∨ k = 4 := by unfold hasDataB at hD; simpa using hD
  rw [shape_sw (by rintro ⟨_, h⟩; rw [hD] at h; cases h), if_pos (by omega)]
  rfl

/-- an item that is read is one that 'check' lets pass -/
theorem item_ok {zs : List Int} {N c : Nat} {s : List Lv} {a : Nat} (hr : ∀ z ∈ zs, 0 ≤ z ∧ z ≤ 255) (hl : zs.length = N) (hc : compB c s = false) {x : It} {a3 : Nat} (h : itemE zs N c s a = (0, x, a3)) :
    checkE c s x.k x.n x.d = 0 ∧ 0 ≤ x.n ∧ a < a3 ∧ a3 ≤ N := by
  unfold itemE at h
  obtain ⟨k, n, er, a2, hh⟩ : ∃ k n er a2, headE zs N a = (k, n, er, a2) := ⟨_, _, _, _, rfl⟩
  rw [hh] at h
  unfold bodyE at h
  dsimp only at h
  by_cases he : er = 0
  · subst he
    rw [if_neg (by simp)] at h
    obtain ⟨k1, k8, n0, n64, h7, h8, hlt, hle⟩ := head_ok hr hl hh
    by_cases hp : placeE c s k = 0
    · rw [if_neg (by simp [hp])] at h
      by_cases hL : tooLargeB k n = true
      · rw [if_pos hL] at h; simp at h
      rw [if_neg hL] at h
      have hL' : tooLargeB k n = false := by simpa using hL
      by_cases hD : hasDataB k = true
      · rw [if_pos hD] at h
        by_cases hs : (N : Int) < a2 + n
        · rw [if_pos hs] at h; simp at h
        rw [if_neg hs] at h
        have hn1 := data_le hL' hD
        obtain ⟨nn, rfl⟩ := Int.eq_ofNat_of_zero_le n0
        rw [Int.toNat_natCast] at h
        by_cases hE : contentE s k 0 (strOfNums ((zs.drop a2).take nn)) = 0
        · rw [if_neg (by simp [hE])] at h
          simp only [Prod.mk.injEq, true_and] at h
          obtain ⟨rfl, rfl⟩ := h
          have harg : argN k 0 (strOfNums ((zs.drop a2).take nn)) = nn := by
            unfold argN; rw [if_pos hD, strOfNums_size]; simp; omega
          refine ⟨?_, Int.le_refl _, by omega, by omega⟩
          rw [checkC hc hp (shape_data _ hD) (by rw [harg]; exact hL')]
          exact hE
        · rw [if_pos hE] at h
          simp only [Prod.mk.injEq] at h
          exact absurd h.1 hE
      · rw [if_neg hD] at h
        have hD' : hasDataB k = false := by simpa using hD
        by_cases hE : contentE s k n ⟨#[]⟩ = 0
        · rw [if_neg (by simp [hE])] at h
          simp only [Prod.mk.injEq, true_and] at h
          obtain ⟨rfl, rfl⟩ := h
          have harg : argN k n ⟨#[]⟩ = n := by unfold argN; rw [if_neg hD]
          refine ⟨?_, n0, hlt, hle⟩
          rw [checkC hc hp (shape_head h8 h7 hD') (by rw [harg]; exact hL')]
          exact hE
        · rw [if_pos hE] at h
          simp only [Prod.mk.injEq] at h
          exact absurd h.1 hE
    · rw [if_pos hp] at h
      simp only [Prod.mk.injEq] at h
      exact absurd h.1 hp
  · rw [if_pos he] at h
    simp only [Prod.mk.injEq] at h
    exact absurd h.1 he
end Go.Proofs.YtepinmeidjlmmaaDoor

/- Decode over any bytes. -/
namespace Go.Proofs.YtepinmeidjlmmaaDoor
open Go.RowKit
set_option maxRecDepth 100000

/-- what is read from here on: error, items, the place behind them -/
def decGo (zs : List Int) (N : Nat) : Nat → Nat → List Lv → Nat → List It → Int × List It × Nat
  | 0, _, _, _, _ => (8, [], 0)
  | f + 1, c, s, a, xs =>
    if compB c s = true then (0, xs, a)
    else if (itemE zs N c s a).1 ≠ 0 then ((itemE zs N c s a).1, [], 0)
    else decGo zs N f (c + 1) (enterS s (itemE zs N c s a).2.1.k (itemE zs N c s a).2.1.n (itemE zs N c s a).2.1.d) (itemE zs N c s a).2.2 (xs ++ [(itemE zs N c s a).2.1])
def decE (zs : List Int) (N : Nat) : Int × List It × Nat := decGo zs N 600 0 [] 0 []

/-- RdS behind 'enter' -/
theorem RdS.nf {w w' : World} {p base c c' : Nat} {s s' : List Lv} {A : Option Addr} {N cap a : Nat} {zs : List Int} (h : RdS w p base c s A N cap a zs) (hn : NF p w w') (hv : ∃ v, nestAt w' base p c' s' v) : RdS w' p base c' s' A N cap a zs :=
  ⟨hv, ⟨(hn.cell 2 (by omega)).trans h.rd.inp, (hn.cell 3 (by omega)).trans h.rd.pos, (hn.frz 3).trans h.rd.fr, h.rd.hcap, h.rd.hcm, h.rd.hN, h.rd.hat⟩, h.by_.below hn.below, h.tabs.below hn.below h.p4, h.p4⟩

theorem own_rf {w w' : World} {p base e size n : Nat} {v : Value} {xs : List Value} (h : w.ownsRow base e size v n xs) (hr : RF p w w') (hp : p < base) : w'.ownsRow base e size v n xs := by
  refine ⟨h.1, ?_⟩
  rcases h.2 with h0 | ⟨g, cap, cur, hv, hg, hh, hc⟩
  · exact .inl h0
  · exact .inr ⟨g, cap, cur, hv, hg, by rw [hr.block g (lt_of_heap hh) (by omega), hh], hc⟩
theorem own_nf {w w' : World} {p base e size n : Nat} {v : Value} {xs : List Value} (h : w.ownsRow base e size v n xs) (hr : NF p w w') (hp : p < base) (he : e ≠ 100) : w'.ownsRow base e size v n xs := by
  refine ⟨h.1, ?_⟩
  rcases h.2 with h0 | ⟨g, cap, cur, hv, hg, hh, hc⟩
  · exact .inl h0
  · exact .inr ⟨g, cap, cur, hv, hg, by rw [hr.block g (lt_of_heap hh) (by omega) (by rw [hh]; intro cur' fr e'; cases e'; exact he rfl), hh], hc⟩
theorem own_base {w : World} {base base' e size n : Nat} {v : Value} {xs : List Value} (h : w.ownsRow base e size v n xs) (hb : base' ≤ base) : w.ownsRow base' e size v n xs := by
  refine ⟨h.1, ?_⟩
  rcases h.2 with h0 | ⟨g, cap, cur, hv, hg, hh⟩
  · exact .inl h0
  · exact .inr ⟨g, cap, cur, hv, by omega, hh⟩
/-- append(a, s...) of items, a the call's own: rows of other types stay -/
theorem app_items2 {ops : Array Oper} {rest : List Oper} {o : Oper} {a : Act} {Q : Exit → Act → World → Prop} {w : World} (hgd : o.guard = none) (s x : Operand)
    (ho : o.op = .call { callee := .builtin .append, args := #[s, x], argTypes := #[22, 22] })
    (base : Nat) (v : Value) (n : Nat) (xs : List It) (l : List It) (B b off cap : Nat) (hown : w.ownsRow base 58 3 v n (itCells xs)) (hs : a.eval s = v)
    (hI : ItemsAt w B (.slice (some ⟨b, off, none⟩) l.length cap) l) (hx : a.eval x = .slice (some ⟨b, off, none⟩) l.length cap) (hne : l ≠ []) (hn : n ≤ 1000000) (hl : l.length ≤ 1000000) (hb : base ≤ w.heap.size)
    (h : ∀ v' w', w'.ownsRow base 58 3 v' (n + l.length) (itCells (xs ++ l)) → Below base w w' → KeptT 58 w w' → wpList Tryd.prog ops Q rest (a.put o.dst v') w') :
    wpList Tryd.prog ops Q (o :: rest) a w := by
  obtain ⟨i0, hi, hz0, hz1, hz2⟩ := info_parts info58
  refine wpList_append_own _ hgd s x 22 ho base 58 i0 _ 3 32 Tryd.underlying22 hi hz0 hz1 hz2 rfl (by decide) v n _ hs hown ⟨b, off, none⟩ l.length cap (itCells l) hx (itCells_len l) (itemsAt_src hI hne).2 (itCells_one l) (by unfold maxLen; omega) (by omega) hb ?_
  intro v' w' h1 h2 _
  rw [← itCells_app] at h1
  exact h v' w' h1 (below_of_grown hown hb h2) (KeptT.grown hown h2)
theorem RdS.kept {w w' : World} {p base c : Nat} {s : List Lv} {A : Option Addr} {N cap a : Nat} {zs : List Int} (h : RdS w p base c s A N cap a zs) (hk : KeptT 58 w w') (hb : Below (p + 1) w w') : RdS w' p base c s A N cap a zs := by
  obtain ⟨v, hv⟩ := h.nest
  have hlt : p < p + 1 := Nat.lt_succ_self p
  refine ⟨⟨v, (hb.cell (p := ⟨p, 0, none⟩) hlt).trans hv.cnt, (hb.cell (p := ⟨p, 1, none⟩) hlt).trans hv.lv, (hb.frozen (p := ⟨p, 0, none⟩) hlt).trans hv.fr0, (hb.frozen (p := ⟨p, 1, none⟩) hlt).trans hv.fr1, ?_, hv.lt, Nat.le_trans hv.hb hk.size, hv.len, hv.c512, hv.ok⟩,
    ⟨(hb.cell (p := ⟨p, 2, none⟩) hlt).trans h.rd.inp, (hb.cell (p := ⟨p, 3, none⟩) hlt).trans h.rd.pos, (hb.frozen (p := ⟨p, 3, none⟩) hlt).trans h.rd.fr, h.rd.hcap, h.rd.hcm, h.rd.hN, h.rd.hat⟩, h.by_.below (hb.mono (Nat.le_succ p)), h.tabs.below (hb.mono (Nat.le_succ p)) h.p4, h.p4⟩
  refine ⟨hv.own.1, ?_⟩
  rcases hv.own.2 with h0 | ⟨g, cap, cur, hv', hg, hh, hc⟩
  · exact .inl h0
  · exact .inr ⟨g, cap, cur, hv', hg, hk.other hh (by decide), hc⟩
theorem own_form {w : World} {base e size n : Nat} {v : Value} {xs : List Value} (h : w.ownsRow base e size v n xs) : ∃ A cap, v = .slice A n cap := by
  rcases h.2 with ⟨h0, h1⟩ | ⟨g, cap, cur, hv, _⟩
  · exact ⟨none, 0, by rw [h0, h1]⟩
  · exact ⟨_, _, hv⟩
theorem Box.nf {W W' : World} {p B : Nat} {k n : Int} {d : ByteArray} (h : Box W B k n d) (hr : NF p W W') (hne : B ≠ p) : Box W' B k n d := by
  have := hr.block B h.lt hne (by unfold Box at h; rw [h]; intro cur fr e; cases e)
  exact this.trans h
theorem decGo_done {zs : List Int} {N f c : Nat} {s : List Lv} {a : Nat} {xs : List It} (h : compB c s = true) : decGo zs N (f + 1) c s a xs = (0, xs, a) := by simp [decGo, h]
theorem decGo_bad {zs : List Int} {N f c : Nat} {s : List Lv} {a : Nat} {xs : List It} {er : Int} {x : It} {a3 : Nat} (h : compB c s = false) (hi : itemE zs N c s a = (er, x, a3)) (he : er ≠ 0) : decGo zs N (f + 1) c s a xs = (er, [], 0) := by simp [decGo, h, hi, he]
theorem decGo_next {zs : List Int} {N f c : Nat} {s : List Lv} {a : Nat} {xs : List It} {x : It} {a3 : Nat} (h : compB c s = false) (hi : itemE zs N c s a = (0, x, a3)) : decGo zs N (f + 1) c s a xs = decGo zs N f (c + 1) (enterS s x.k x.n x.d) a3 (xs ++ [x]) := by simp [decGo, h, hi]

def DecP (zs : List Int) (N : Nat) (w : World) (e : Ending) (w' : World) : Prop :=
  ∃ v, e = .returned (.tuple #[v, .int .i64 (decE zs N).2.2, .int .i64 (decE zs N).1]) ∧ w'.ownsRow w.heap.size 58 3 v (decE zs N).2.1.length (itCells (decE zs N).2.1) ∧ Below w.heap.size w w' ∧ ((decE zs N).1 ≠ 0 → v = .slice none 0 0) ∧ (∀ x ∈ (decE zs N).2.1, 0 ≤ x.n ∧ x.d.size ≤ 1024) ∧ (decE zs N).2.1.length ≤ 600

set_option maxHeartbeats 2000000 in
theorem decode_any (A : Option Addr) (N cap : Nat) (zs : List Int) (w : World) (hb : Bys w A N zs) (hc : N ≤ cap) (hcm : cap ≤ 9223372036854775807) (hN : N ≤ 1000000000000) (ht : Tabs w) :
    Calls Tryd.prog 22 #[.slice A N cap] w (DecP zs N w) := by
  have hB0 : Below w.heap.size w (w.alloc (.cells #[.int .i64 0, .slice none 0 0, .slice A N cap, .int .i64 0] 77)) := (Below.refl _ w).alloc (Nat.le_refl _) _
  have hN0 : nestAt (w.alloc (.cells #[.int .i64 0, .slice none 0 0, .slice A N cap, .int .i64 0] 77)) (w.heap.size + 1) w.heap.size 0 [] (.slice none 0 0) :=
    ⟨by simp, by simp, by simp, by simp, World.ownsRow_nil _ _ _ _, by omega, by simp, by simp, by omega, by simp⟩
  have hR : Rd (w.alloc (.cells #[.int .i64 0, .slice none 0 0, .slice A N cap, .int .i64 0] 77)) w.heap.size A N cap 0 :=
    ⟨by simp, by simp, by simp, hc, hcm, hN, by omega⟩
  have HS := Lib.hid (⟨⟨_, hN0⟩, hR, (BysB.of hb).below hB0, ht.later hB0, ht.tz.hs⟩ : RdS _ w.heap.size (w.heap.size + 1) 0 [] A N cap 0 zs)
  have HB0 := Lib.hid hB0
  have HBY := Lib.hid hb
  clear hR hN0 hB0 hb ht
  go_enter Tryd.func22, Tryd.ntmps22
  go_wp2_with fail
  go_loopw [2] (fun v wr => ∃ c s a xs, xs.length = c ∧ c ≤ 512 ∧ (∃ A2 cap2, v = .slice A2 c cap2) ∧ Hid (wr.ownsRow (w.heap.size + 1) 58 3 v c (itCells xs)) ∧ Hid (RdS wr w.heap.size (w.heap.size + 1) c s A N cap a zs) ∧ Below w.heap.size w wr ∧ Hid (∀ t r, s = t :: r → 1 ≤ t.mi) ∧ Hid (decGo zs N (600 - c) c s a xs = decE zs N) ∧ Hid (∀ x ∈ xs, 0 ≤ x.n ∧ x.d.size ≤ 1024)) (fun v _ => match v with | .slice _ m _ => 600 - m | _ => 0)
  case atStart => exact ⟨0, [], 0, [], rfl, by omega, ⟨none, 0, rfl⟩, Lib.hid (World.ownsRow_nil _ _ _ _), HS, HB0.out, Lib.hid (by simp), Lib.hid rfl, Lib.hid (by simp)⟩
  case round =>
    obtain ⟨c, s, a, xs, hxl, hc512, ⟨A2, cap2, rfl⟩, HO, HR, hbw, HT, HG, HX⟩ := hrel
    have HBW := Lib.hid hbw
    have HXL := Lib.hid hxl
    obtain ⟨v0, hv0⟩ := HR.out.nest
    have HV := Lib.hid hv0
    have hpos := HR.out.rd.pos
    have hpw := HR.out.plt
    have h600 : 600 - c = (600 - (c + 1)) + 1 := by omega
    have H6 := Lib.hid h600
    clear hbw hv0 h600 hxl
    by_cases hcomp : compB c s = true
    · have HCB := Lib.hid hcomp
      clear hcomp
      have hfin : decE zs N = (0, xs, a) := by rw [← HG.out, H6.out]; exact decGo_done HCB.out
      have HF := Lib.hid hfin
      clear hfin
      go_wp2_with (go_at_call 41; refine (complete_any _ HV.out).mono ?_; rintro e w' ⟨rfl, rfl⟩; rw [HCB.out])
      go_quiet (fail)
      go_wp2
      go_ret3
      refine ⟨.slice A2 c cap2, by rw [HF.out]; rfl, by rw [HF.out, HXL.out]; exact own_base HO.out (by omega), HBW.out.trans ⟨rfl, rfl, rfl, Nat.le_refl _, fun _ _ => rfl⟩, fun h => by rw [HF.out] at h; exact absurd rfl h, by rw [HF.out]; exact HX.out, by rw [HF.out, HXL.out]; omega⟩
    · have hcomp' : compB c s = false := by simpa using hcomp
      have HCB := Lib.hid hcomp'
      clear hcomp hcomp'
      obtain ⟨er, x, a3, hie⟩ : ∃ er x a3, itemE zs N c s a = (er, x, a3) := ⟨_, _, _, rfl⟩
      have hI := itm_any w.heap.size (w.heap.size + 1) c s A N cap a zs wr HR.out
      rw [hie] at hI
      have HI := Lib.hid hI
      clear hI hpos
      by_cases he : er = 0
      · subst he
        obtain ⟨hck, hn0, _, _⟩ := item_ok HBY.out.rng HBY.out.len HCB.out hie
        obtain ⟨q512, qk1, qk8, q7, qd, q5, q6, qs, qkey, _⟩ := check_zero hck
        have hnext : decGo zs N (600 - (c + 1)) (c + 1) (enterS s x.k x.n x.d) a3 (xs ++ [x]) = decE zs N := by rw [← HG.out, H6.out]; exact (decGo_next HCB.out hie).symm
        have HNX := Lib.hid hnext
        have HKEY := Lib.hid qkey
        have Q5 := Lib.hid q5
        have Q6 := Lib.hid q6
        clear hnext hie hck qkey q5 q6 q7
        go_wp2_with (first
          | (go_at_call 41; refine (complete_any _ HV.out).mono ?_; rintro e w' ⟨rfl, rfl⟩; rw [HCB.out])
          | (go_at_call 44; refine HI.out.mono ?_; rintro e w1 ⟨rfl, hr1, hs1⟩; have HR1 := Lib.hid hr1; have HS1 := Lib.hid (hs1 rfl); clear hr1 hs1)
          | fail)
        have hb2 : Below w1.heap.size w1 (w1.alloc (.cells #[.int .i64 x.k, .int .u64 x.n, .string x.d] 58)) := (Below.refl _ w1).alloc (Nat.le_refl _) _
        have hs2 := HS1.out.keep hb2
        obtain ⟨v2, hv2⟩ := hs2.nest
        have hbx2 := Box.new w1 x.k x.n x.d
        have ho2 := (own_rf HO.out HR1.out (Nat.lt_succ_self _)).alloc (.cells #[.int .i64 x.k, .int .u64 x.n, .string x.d] 58)
        have hsz1 := HR1.out.size
        have hsz0 := HBW.out.size
        refine (enter_any x.k x.n x.d _ hv2 hn0 Q6.out Q5.out (by omega) (by omega) HT.out HKEY.out).mono ?_
        rintro e w3 ⟨rfl, hnf, hv3⟩
        have hs3 := hs2.nf hnf hv3
        have hbx3 := hbx2.nf hnf (by omega)
        have ho3 := own_nf ho2 hnf (Nat.lt_succ_self _) (by decide)
        have htop := fun v3 (h : nestAt w3 (w.heap.size + 1) w.heap.size (c + 1) (enterS s x.k x.n x.d) v3) => top_pos (s := pushed (lessS (keyS s x.k x.n x.d)) x.k x.n) h
        obtain ⟨v3, hv3⟩ := hv3
        have htp := htop v3 hv3
        have hb03 : Below w.heap.size w w3 := ((HBW.out.trans (HR1.out.below (Nat.le_of_lt hpw))).trans (hb2.mono (by omega))).trans hnf.below
        have HS3 := Lib.hid hs3
        have HO3 := Lib.hid ho3
        have HTP := Lib.hid htp
        have HB3 := Lib.hid hb03
        have hsz3 := hb03.size
        have hlt3 : w.heap.size + 1 ≤ w3.heap.size := by have := HS3.out.plt; omega
        obtain ⟨z0, z1, z2, _, _, _⟩ := hbx3.cells
        clear hb2 hs2 hv2 hbx2 ho2 hnf hs3 hbx3 ho3 htop hv3 htp hb03
        have hit : ItemsAt (w3.alloc (.cells #[.int .i64 x.k, .int .u64 x.n, .string x.d] 58)) (w3.heap.size + 1) (.slice (some ⟨w3.heap.size, 0, none⟩) 1 1) [x] := itemsAt_one (by omega) (heap_new w3 _) hn0 (by unfold maxLen; omega)
        have HIT := Lib.hid hit
        clear hit
        have hxlen := HXL.out
        go_wp2_with (first
          | (at_builtin; refine app_items2 rfl _ _ rfl (w.heap.size + 1) _ c xs [x] (w3.heap.size + 1) w3.heap.size 0 1 (HO3.out.alloc _) rfl HIT.out rfl (by simp) (by omega) (by simp) (by simp; omega) ?_; intro v4 w4 ho4 hb4 hk4)
          | fail)
        have hb34 : Below w3.heap.size w3 (w3.alloc (.cells #[.int .i64 x.k, .int .u64 x.n, .string x.d] 58)) := (Below.refl _ w3).alloc (Nat.le_refl _) _
        have hs4 := (HS3.out.keep hb34).kept hk4 hb4
        obtain ⟨A4, cap4, hv4⟩ := own_form ho4
        subst hv4
        have hxs : ∀ y ∈ xs ++ [x], 0 ≤ y.n ∧ y.d.size ≤ 1024 := by
          intro y hy
          rcases List.mem_append.1 hy with h | h
          · exact HX.out y h
          · simp at h; subst h; exact ⟨hn0, qd⟩
        go_roundw
        case rel => exact ⟨c + 1, enterS s x.k x.n x.d, a3, xs ++ [x], by simp [hxlen], by omega, ⟨A4, cap4, rfl⟩, Lib.hid ho4, Lib.hid hs4, (HB3.out.trans (hb34.mono (by omega))).trans (hb4.mono (by omega)), HTP, HNX, Lib.hid hxs⟩
        case measure => show 600 - (c + 1) < 600 - c; omega
      · have hfin : decE zs N = (er, [], 0) := by rw [← HG.out, H6.out]; exact decGo_bad HCB.out hie he
        have hne : (er != 0) = true := by simpa using he
        have HF := Lib.hid hfin
        have HIE := Lib.hid hie
        clear hfin hie
        go_wp2_with (first
          | (go_at_call 41; refine (complete_any _ HV.out).mono ?_; rintro e w' ⟨rfl, rfl⟩; rw [HCB.out])
          | (go_at_call 44; refine HI.out.mono ?_; rintro e w1 ⟨rfl, hr1, _⟩; have HR1 := Lib.hid hr1; clear hr1))
        go_ret3
        exact ⟨.slice none 0 0, by rw [HF.out]; rfl, by rw [HF.out]; exact World.ownsRow_nil _ _ _ _, (HBW.out.trans (HR1.out.below (Nat.le_of_lt hpw))).alloc (by have := HBW.out.size; have := HR1.out.size; omega) _, fun _ => rfl, by rw [HF.out]; exact fun x h => absurd h (by simp), by rw [HF.out]; exact Nat.zero_le _⟩
end Go.Proofs.YtepinmeidjlmmaaDoor

/- What is read is an encoding: plain. -/
namespace Go.Proofs.YtepinmeidjlmmaaDoor
open Go.RowKit
set_option maxRecDepth 100000

theorem beTo_div {ys : List Int} {k : Nat} (hr : ∀ z ∈ ys, 0 ≤ z ∧ z ≤ 255) (h : k < ys.length) : beTo ys (k + 1) / 256 = beTo ys k ∧ beTo ys (k + 1) % 256 = ys.getD k 0 := by
  have hx : 0 ≤ ys.getD k 0 ∧ ys.getD k 0 ≤ 255 := by
    simp only [List.getD, List.getElem?_eq_getElem h, Option.getD_some]
    exact hr _ (List.getElem_mem _)
  rw [beTo_succ h]
  omega
theorem beTo_far {ys : List Int} (hr : ∀ z ∈ ys, 0 ≤ z ∧ z ≤ 255) (i : Nat) : ∀ t, i + t ≤ ys.length → beTo ys (i + t) / 256 ^ t = beTo ys i
  | 0, _ => by simp
  | t + 1, h => by
    have ih := beTo_far hr i t (by omega)
    have hd := (beTo_div (k := i + t) hr (by omega)).1
    have e : (256 : Int) ^ (t + 1) = 256 * 256 ^ t := by rw [Int.pow_succ, Int.mul_comm]
    rw [show i + (t + 1) = (i + t) + 1 by omega, e, ← Int.ediv_ediv_of_nonneg (by decide), hd, ih]
theorem beBytes_back {ys : List Int} {s : Nat} (hr : ∀ z ∈ ys, 0 ≤ z ∧ z ≤ 255) (hl : ys.length = s) : beBytes (beTo ys s) s s = ys := by
  apply List.ext_getElem?
  intro i
  rcases Nat.lt_or_ge i s with hi | hi
  · have e1 : (beBytes (beTo ys s) s s)[i]? = some (beByte (beTo ys s) s i) := by simp [beBytes, hi]
    rw [e1]
    unfold beByte
    have hf := beTo_far hr (i + 1) (s - 1 - i) (by omega)
    have hd := (beTo_div (k := i) hr (by omega)).2
    rw [show i + 1 + (s - 1 - i) = s by omega] at hf
    rw [show (2 : Int) ^ (8 * (s - 1 - i)) = 256 ^ (s - 1 - i) by rw [Int.pow_mul]; rfl, hf, hd]
    simp only [List.getD]
    rw [List.getElem?_eq_getElem (by omega)]
    rfl
  · rw [List.getElem?_eq_none (by rw [beBytes_len]; exact hi), List.getElem?_eq_none (by omega)]

theorem stretch {zs : List Int} {a b : Nat} (h : a < b) (hb : b ≤ zs.length) : (zs.drop a).take (b - a) = zs.getD a 0 :: (zs.drop (a + 1)).take (b - a - 1) := by
  rw [List.drop_eq_getElem_cons (show a < zs.length by omega)]
  obtain ⟨m, hm⟩ : ∃ m, b - a = m + 1 := ⟨b - a - 1, by omega⟩
  rw [hm, List.take_succ_cons]
  simp [List.getD, List.getElem?_eq_getElem (show a < zs.length by omega)]
theorem stretch_app {zs : List Int} {a b c : Nat} (h : a ≤ b) (h2 : b ≤ c) : (zs.drop a).take (c - a) = (zs.drop a).take (b - a) ++ (zs.drop b).take (c - b) := by
  rw [show c - a = (b - a) + (c - b) by omega, List.take_add, List.drop_drop, show a + (b - a) = b by omega]

/-- the head's bytes are the encoding of the head -/
theorem head_enc {zs : List Int} {N a : Nat} (hr : ∀ z ∈ zs, 0 ≤ z ∧ z ≤ 255) (hl : zs.length = N) {k n : Int} {a2 : Nat} (h : headE zs N a = (k, n, 0, a2)) :
    (k ≤ 6 ∧ encHead (k - 1) n = (zs.drop a).take (a2 - a)) ∨ (k = 7 ∧ [244 + n] = (zs.drop a).take (a2 - a)) ∨ (k = 8 ∧ [246] = (zs.drop a).take (a2 - a)) := by
  have hok := head_ok hr hl h
  have hst := stretch (zs := zs) (a := a) (b := a2) hok.2.2.2.2.2.2.1 (by omega)
  unfold headE at h
  by_cases hN : N ≤ a
  · rw [if_pos hN] at h; simp at h
  rw [if_neg hN] at h
  have hby : 0 ≤ zs.getD a 0 ∧ zs.getD a 0 ≤ 255 := by
    simp only [List.getD, List.getElem?_eq_getElem (show a < zs.length by omega), Option.getD_some]
    exact hr _ (List.getElem_mem _)
  generalize zs.getD a 0 = x at *
  by_cases hx : x = 244 ∨ x = 245 ∨ x = 246
  · rw [if_pos hx] at h
    simp only [Prod.mk.injEq] at h
    obtain ⟨h1, h2, _, h4⟩ := h
    subst h4
    rw [show a + 1 - a - 1 = 0 by omega, List.take_zero] at hst
    rcases hx with rfl | rfl | rfl
    · right; left; simp at h1 h2; exact ⟨h1.symm, by rw [← h2, hst]; rfl⟩
    · right; left; simp at h1 h2; exact ⟨h1.symm, by rw [← h2, hst]; rfl⟩
    · right; right; simp at h1; exact ⟨h1.symm, by rw [hst]⟩
  rw [if_neg hx] at h
  by_cases hbad : 6 < 1 + x / 32 ∨ 27 < x % 32
  · rw [if_pos hbad] at h; simp at h
  rw [if_neg hbad] at h
  by_cases hlow : x % 32 < 24
  · rw [if_pos hlow] at h
    simp only [Prod.mk.injEq] at h
    obtain ⟨rfl, rfl, _, rfl⟩ := h
    left
    refine ⟨by omega, ?_⟩
    rw [hst, show a + 1 - a - 1 = 0 by omega, List.take_zero, encHead0 hlow]
    congr 1
    omega
  rw [if_neg hlow] at h
  obtain ⟨j, hj⟩ : ∃ j : Nat, x % 32 - 24 = j := ⟨(x % 32 - 24).toNat, by omega⟩
  rw [hj, Int.toNat_natCast] at h
  by_cases hsh : N < a + 1 + 2 ^ j
  · rw [if_pos hsh] at h; simp at h
  rw [if_neg hsh] at h
  by_cases hok2 : argSz (widN zs a (2 ^ j)) = ((2 ^ j : Nat) : Int)
  · rw [if_pos hok2] at h
    simp only [Prod.mk.injEq] at h
    obtain ⟨rfl, rfl, _, rfl⟩ := h
    left
    refine ⟨by omega, ?_⟩
    rw [hst, show a + 1 + 2 ^ j - a - 1 = 2 ^ j by omega]
    have hys : ((zs.drop (a + 1)).take (2 ^ j)).length = 2 ^ j := by simp; omega
    have hbk := beBytes_back (ys := (zs.drop (a + 1)).take (2 ^ j)) (s := 2 ^ j) (fun z hz => hr z (List.mem_of_mem_drop (List.mem_of_mem_take hz))) hys
    have hw : widN zs a (2 ^ j) = beTo ((zs.drop (a + 1)).take (2 ^ j)) (2 ^ j) := rfl
    rw [← hw] at hbk
    generalize (zs.drop (a + 1)).take (2 ^ j) = ys at *
    generalize widN zs a (2 ^ j) = n at *
    have hx2 : x = (1 + x / 32 - 1) * 32 + (24 + (j : Int)) := by omega
    generalize 1 + x / 32 - 1 = m at *
    have hj4 : j = 0 ∨ j = 1 ∨ j = 2 ∨ j = 3 := by omega
    unfold argSz at hok2
    rcases hj4 with rfl | rfl | rfl | rfl
    · by_cases c0 : n < 24
      · rw [if_pos c0] at hok2; simp at hok2
      rw [if_neg c0] at hok2
      by_cases c1 : n < 256
      · rw [encHead1 (by omega) c1, hx2]; rw [show (2 : Nat) ^ 0 = 1 from rfl] at hbk; rw [hbk]; rfl
      · rw [if_neg c1] at hok2; exfalso; split at hok2 <;> (try split at hok2) <;> simp at hok2
    · by_cases c0 : n < 24
      · rw [if_pos c0] at hok2; simp at hok2
      rw [if_neg c0] at hok2
      by_cases c1 : n < 256
      · rw [if_pos c1] at hok2; simp at hok2
      rw [if_neg c1] at hok2
      by_cases c2 : n < 65536
      · rw [encHead2 (by omega) c2, hx2]; rw [show (2 : Nat) ^ 1 = 2 from rfl] at hbk; rw [hbk]; rfl
      · rw [if_neg c2] at hok2; exfalso; split at hok2 <;> simp at hok2
    · by_cases c0 : n < 24
      · rw [if_pos c0] at hok2; simp at hok2
      rw [if_neg c0] at hok2
      by_cases c1 : n < 256
      · rw [if_pos c1] at hok2; simp at hok2
      rw [if_neg c1] at hok2
      by_cases c2 : n < 65536
      · rw [if_pos c2] at hok2; simp at hok2
      rw [if_neg c2] at hok2
      by_cases c3 : n < 4294967296
      · rw [encHead4 (by omega) c3, hx2]; rw [show (2 : Nat) ^ 2 = 4 from rfl] at hbk; rw [hbk]; rfl
      · rw [if_neg c3] at hok2; simp at hok2
    · by_cases c3 : 4294967296 ≤ n
      · rw [encHead8 c3, hx2]; rw [show (2 : Nat) ^ 3 = 8 from rfl] at hbk; rw [hbk]; rfl
      · exfalso
        by_cases c0 : n < 24
        · rw [if_pos c0] at hok2; simp at hok2
        rw [if_neg c0] at hok2
        by_cases c1 : n < 256
        · rw [if_pos c1] at hok2; simp at hok2
        rw [if_neg c1] at hok2
        by_cases c2 : n < 65536
        · rw [if_pos c2] at hok2; simp at hok2
        rw [if_neg c2, if_pos (by omega)] at hok2; simp at hok2
  · rw [if_neg hok2] at h; simp at h
end Go.Proofs.YtepinmeidjlmmaaDoor
