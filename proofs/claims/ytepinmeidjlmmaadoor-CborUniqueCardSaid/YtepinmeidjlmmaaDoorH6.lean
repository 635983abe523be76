/- A reader over any bytes: an item whose content is examined. -/
import Derived.Test.YtepinmeidjlmmaaDoorH5
import Derived.Test.YtepinmeidjlmmaaDoorD2
namespace Go.Proofs.YtepinmeidjlmmaaDoor
open Go.RowKit
set_option maxRecDepth 100000

theorem Box.set3 {W : World} {B : Nat} {k0 n0 k n : Int} {d0 d : ByteArray} (h : Box W B k0 n0 d0) : Box (((W.setCell ⟨B, 0, none⟩ (.int .i64 k)).setCell ⟨B, 1, none⟩ (.int .u64 n)).setCell ⟨B, 2, none⟩ (.string d)) B k n d := by
  unfold Box itemCs at h ⊢
  simp [World.setCell, Array.getElem?_modify, h]
theorem Box.far {W : World} {B B2 : Nat} {k n : Int} {d : ByteArray} (h : Box W B k n d) (hne : B ≠ B2) (j : Nat) (u : Value) : Box (W.setCell ⟨B2, j, none⟩ u) B k n d := (heap_setCell_other W _ B u hne).trans h
theorem Rd.far {w : World} {p : Nat} {A : Option Addr} {N cap a : Nat} (h : Rd w p A N cap a) {B : Nat} (hne : B ≠ p) (j : Nat) (u : Value) : Rd (w.setCell ⟨B, j, none⟩ u) p A N cap a :=
  ⟨(World.cell?_setCell_other _ _ _ _ (by simp <;> omega)).trans h.inp, (World.cell?_setCell_other _ _ _ _ (by simp <;> omega)).trans h.pos, (World.frozen?_setCell _ _ _ _).trans h.fr, h.hcap, h.hcm, h.hN, h.hat⟩
theorem gen_world {P : Program} {code : Code} {Q : Exit → Act → World → Prop} {a : Act} {W : World} (F : World → Prop) (h0 : F W) (h : ∀ W', F W' → Code.wp P code Q a W') : Code.wp P code Q a W := h W h0
theorem conv_bys {w : World} {A : Option Addr} {n cap : Nat} {zs : List Int} (h : Bys w A n zs) : (convert 25 9 (.slice A n cap)).run Tryd.prog w = .ok (.string (strOfNums zs)) w := by
  rcases A with _ | a
  · have hn : n = 0 := by
      rcases Nat.eq_zero_or_pos n with h0 | h0
      · exact h0
      · obtain ⟨_, e, _⟩ := h.at_ 0 h0
        cases e
    have hz : zs = [] := List.eq_nil_of_length_eq_zero (by rw [h.len, hn])
    subst hz
    subst hn
    exact run_convert_bytes_nil w 25 5 Tryd.underlying25 Tryd.underlying5 0 cap 9 Tryd.underlying9
  · exact run_convert_bytes_at w a n cap zs h.len fun i hi => by
      obtain ⟨a2, e, hc⟩ := h.at_ i hi
      cases e
      exact hc
theorem content_b {w : World} {p base c : Nat} {s : List Lv} {A : Option Addr} {N cap a : Nat} {zs : List Int} (h : RdS w p base c s A N cap a zs) (k n : Int) (d : ByteArray) {r : Int} (hr : contentE s k n d = r) (hn0 : 0 ≤ n) (hk0 : 1 ≤ k) (hk1 : k ≤ 8) (h7 : k = 7 → n ≤ 1) (hd : d.size ≤ 1100) :
    Calls Tryd.prog 58 #[.pointer (some ⟨p, 0, none⟩), itemV k n d] w fun e w' => e = .returned (.int .i64 r) ∧ Below w.heap.size w w' := by
  obtain ⟨v, hv⟩ := h.nest
  rw [← hr]
  exact content_any k n d w hv h.tabs hn0 hk0 hk1 h7 hd
/-- what is known ahead of the content's examination -/
structure Ahead (w W : World) (p base c : Nat) (s : List Lv) (A : Option Addr) (N cap a : Nat) (zs : List Int) (B : Nat) (k n : Int) (d : ByteArray) : Prop where
  rds : RdS W p base c s A N cap a zs
  box : Box W B k n d
  res : Box W w.heap.size 0 0 ⟨#[]⟩
  rf : RF p w W
  lt : w.heap.size < B
theorem Ahead.keep {w W W' : World} {p base c : Nat} {s : List Lv} {A : Option Addr} {N cap a : Nat} {zs : List Int} {B : Nat} {k n : Int} {d : ByteArray} (h : Ahead w W p base c s A N cap a zs B k n d) (hb : Below W.heap.size W W') : Ahead w W' p base c s A N cap a zs B k n d :=
  ⟨h.rds.keep hb, h.box.keep hb, h.res.keep hb, h.rf.trans (RF.of_below hb h.rds.plt), h.lt⟩
theorem RdS.far {w : World} {p base c : Nat} {s : List Lv} {A : Option Addr} {N cap a : Nat} {zs : List Int} (h : RdS w p base c s A N cap a zs) {w0 : World} (h0 : RdS w0 p base c s A N cap a zs) (hr : RF p w0 w) {B : Nat} (hB : w0.heap.size ≤ B) (hne : B ≠ p) (j : Nat) (u : Value) : RdS (w.setCell ⟨B, j, none⟩ u) p base c s A N cap a zs :=
  h0.rf (hr.setNew hB h0.plt j u) (h.rd.far hne j u)

set_option maxHeartbeats 2000000 in
theorem itm_data_err (p base c : Nat) (s : List Lv) (A : Option Addr) (N cap a a2 nn : Nat) (zs : List Int) (k n er : Int) (w : World) (h : RdS w p base c s A N cap a zs) (hh : headE zs N a = (k, n, 0, a2)) (hpl : placeE c s k = 0) (hL : tooLargeB k n = false) (hD : hasDataB k = true) (hn : a2 + nn ≤ N) (hnn : n = nn) (hn1 : nn ≤ 1024) (hk0 : 1 ≤ k) (hk1 : k ≤ 8) (hn0 : 0 ≤ n) (hk7 : k = 7 → (0 : Int) ≤ 1) (hE : contentE s k 0 (strOfNums ((zs.drop a2).take nn)) = er) (he : er ≠ 0) :
    Calls Tryd.prog 44 #[.pointer (some ⟨p, 0, none⟩)] w (ItemP p base c s A N cap zs (er, noIt, a) w) := by
  subst hnn
  have hp := h.plt
  have hb0 : Below w.heap.size w (w.alloc (.cells #[.int .i64 0, .int .u64 0, .string ⟨#[]⟩] 58)) := (Below.refl _ w).alloc (Nat.le_refl _) _
  have h0 := h.keep hb0
  have hH := hed_any p A N cap a zs _ h0.rd h0.by_
  rw [hh] at hH
  have HH := Lib.hid hH
  have HX := Lib.hid (Box.new w 0 0 ⟨#[]⟩)
  have HR0 := Lib.hid (RF.of_below hb0 hp)
  have HS0 := Lib.hid h0
  have HP := Lib.hid hpl
  have HL := Lib.hid hL
  have HD := Lib.hid hD
  have HE := Lib.hid hE
  have HN0 : (0 : Int) ≤ 0 := by omega
  have HK0 := hk0
  have HK1 := hk1
  have HK7 := Lib.hid hk7
  have hne : (er != 0) = true := by simpa using he
  have HDS : (strOfNums ((zs.drop a2).take nn)).size ≤ 1100 := by rw [strOfNums_size]; simp; omega
  generalize hD2 : strOfNums ((zs.drop a2).take nn) = D2 at *
  have HD2 := Lib.hid hD2
  clear hD2
  clear h h0 hH hb0 hh hpl hL hD hE hk7
  go_enter Tryd.func44, Tryd.ntmps44
  go_wp2_with (first
    | (go_at_call 64; refine HH.out.mono ?_; rintro e w2 ⟨rfl, hr2, hd2⟩; have hs2 := HS0.out.rf hr2 (hd2 rfl); have hx2 := HX.out.rf hr2 (by omega); have HR2 := Lib.hid hr2; have HS2 := Lib.hid hs2; have HX2 := Lib.hid hx2; clear hr2 hx2 hd2 hs2)
    | fail)
  refine (place_b HS2.out k HP.out).mono ?_
  rintro e w3 ⟨rfl, hb3⟩
  have hs3 := HS2.out.keep hb3
  have hx3 := HX2.out.keep hb3
  have HR3 := Lib.hid ((HR0.out.trans HR2.out).trans (RF.of_below hb3 HS2.out.plt))
  have HS3 := Lib.hid hs3
  have HX3 := Lib.hid hx3
  clear hb3 hs3 hx3
  go_wp2_with (first
    | (go_at_call 57; refine (tooLarge_any _ _ _).mono ?_; rintro e w4 ⟨rfl, rfl⟩; rw [HL.out])
    | (go_at_call 65; refine (hasData_any _ _).mono ?_; rintro e w5 ⟨rfl, rfl⟩; rw [HD.out])
    | fail)
  have hb4 : Below w3.heap.size w3 (w3.alloc (.cells #[.int .i64 k, .int .u64 nn, .string ⟨#[]⟩] 58)) := (Below.refl _ w3).alloc (Nat.le_refl _) _
  have hs4 := HS3.out.keep hb4
  refine (tak_yes p A N cap a2 nn _ hs4.rd hn).mono ?_
  rintro e w5 ⟨rfl, hr5, hd5⟩
  have hs5 := hs4.rf hr5 hd5
  have hcv := conv_bys (cap := cap - a2) (hs5.by_.1.cut a2 nn hn hs5.rd.hcap)
  rw [HD2.out] at hcv
  have hbx := (Box.new w3 k nn ⟨#[]⟩).rf hr5 (by have := HS3.out.plt; omega)
  have hx5 := (HX3.out.keep hb4).rf hr5 (by omega)
  have hr35 := (RF.of_below hb4 HS3.out.plt).trans hr5
  have hw3 := HX3.out.lt
  have hp3 := HS3.out.plt
  have HS5 := Lib.hid hs5
  have HBX := Lib.hid hbx
  have HX5 := Lib.hid hx5
  have HR35 := Lib.hid hr35
  obtain ⟨g0, g1, g2, u0, u1, u2⟩ := hbx.cells
  clear hb4 hs4 hr5 hd5 hs5 hbx hx5 hr35
  go_wp2
  refine gen_world (fun W => Ahead w W p base c s A N cap (a2 + nn) zs w3.heap.size k 0 D2 ∧ (∀ W0 : World, True)) ⟨⟨?_, HBX.out.set3, ?_, ?_, hw3⟩, fun _ => trivial⟩ ?_
  · exact HS3.out.rf (((HR35.out.setNew (Nat.le_refl _) hp3 _ _).setNew (Nat.le_refl _) hp3 _ _).setNew (Nat.le_refl _) hp3 _ _) (((HS5.out.rd.far (by omega) _ _).far (by omega) _ _).far (by omega) _ _)
  · exact ((HX5.out.far (by omega) _ _).far (by omega) _ _).far (by omega) _ _
  · exact HR3.out.trans (((HR35.out.setNew (Nat.le_refl _) hp3 _ _).setNew (Nat.le_refl _) hp3 _ _).setNew (Nat.le_refl _) hp3 _ _)
  intro w6 ⟨ha, _⟩
  have HA := Lib.hid ha
  clear ha g0 g1 g2 u0 u1 u2 hcv
  refine held_begin (by kernel_rfl) ?_
  refine held_take (i := 0) (v := ?_) rfl rfl (by kernel_rfl) (by kernel_rfl) (by kernel_rfl) (fun _ _ _ h => h) (by rfl) ?_ ?_
  rotate_left
  · intro W hW
    go_simp
    try with_reducible rfl
  simp only [Act.put, List.setIfInBounds_toArray, List.set_cons_zero, List.set_cons_succ]
  refine held_take (i := 1) (v := ?_) rfl rfl (by kernel_rfl) (by kernel_rfl) (by kernel_rfl) (fun _ _ _ h => h) (by rfl) ?_ ?_
  rotate_left
  · intro W hW
    go_simp
    try with_reducible rfl
  simp only [Act.put, List.setIfInBounds_toArray, List.set_cons_zero, List.set_cons_succ]
  refine held_take (i := 2) (v := ?_) rfl rfl (by kernel_rfl) (by kernel_rfl) (by kernel_rfl) (fun _ _ _ h => h) (by rfl) ?_ ?_
  rotate_left
  · intro W hW
    go_simp
    try with_reducible rfl
  simp only [Act.put, List.setIfInBounds_toArray, List.set_cons_zero, List.set_cons_succ]
  refine held_take (i := 3) (v := ?_) rfl rfl (by kernel_rfl) (by kernel_rfl) (by kernel_rfl) (fun _ _ _ h => h) (by rfl) ?_ ?_
  rotate_left
  · intro W hW
    obtain ⟨q0, q1, q2, _, _, _⟩ := ((HA.out.keep (⟨rfl, rfl, rfl, Nat.le_refl _, fun _ _ => rfl⟩ : Below w6.heap.size w6 w6.drew)).box.keep hW).cells
    go_simp
    try with_reducible rfl
  simp only [Act.put, List.setIfInBounds_toArray, List.set_cons_zero, List.set_cons_succ]
  refine held_call (i := 4) (by kernel_rfl) rfl (fun K' hK => ?_)
  go_simp
  refine (content_b (HA.out.keep (⟨rfl, rfl, rfl, Nat.le_refl _, fun _ _ => rfl⟩ : Below w6.heap.size w6 w6.drew)).rds k 0 D2 HE.out HN0 HK0 HK1 HK7.out HDS).mono ?_
  rintro e w7 ⟨rfl, hb⟩
  refine hK.out _ _ hb ?_
  clear hK K'
  have HA7 := Lib.hid ((HA.out.keep (⟨rfl, rfl, rfl, Nat.le_refl _, fun _ _ => rfl⟩ : Below w6.heap.size w6 w6.drew)).keep hb)
  clear hb
  refine held_take (i := 5) (v := ?_) rfl rfl (by kernel_rfl) (by kernel_rfl) (by kernel_rfl) (fun _ _ _ h => h) (by rfl) ?_ ?_
  rotate_left
  · intro W hW
    go_simp
    try with_reducible rfl
  simp only [Act.put, List.setIfInBounds_toArray, List.set_cons_zero, List.set_cons_succ]
  refine wpAnyH_done (by kernel_rfl) ?_ _
  obtain ⟨y0, y1, y2, f0, f1, f2⟩ := HA7.out.res.cells
  go_wp2
  refine bodyPost_ret (v := .tuple #[itemV 0 0 ⟨#[]⟩, .int .i64 er]) (by simp [results, Tryd.results44, go_sem, y0, y1, y2]) rfl ⟨rfl, ?_, fun h0 => absurd h0 he⟩
  exact ((HA7.out.rf.setNew (Nat.le_refl _) hp _ _).setNew (Nat.le_refl _) hp _ _).setNew (Nat.le_refl _) hp _ _

set_option maxHeartbeats 2000000 in
theorem itm_plain_err (p base c : Nat) (s : List Lv) (A : Option Addr) (N cap a a2 : Nat) (zs : List Int) (k n er : Int) (w : World) (h : RdS w p base c s A N cap a zs) (hh : headE zs N a = (k, n, 0, a2)) (hpl : placeE c s k = 0) (hL : tooLargeB k n = false) (hD : hasDataB k = false) (hk0 : 1 ≤ k) (hk1 : k ≤ 8) (hn0 : 0 ≤ n) (hk7 : k = 7 → (n : Int) ≤ 1) (hE : contentE s k n ⟨#[]⟩ = er) (he : er ≠ 0) :
    Calls Tryd.prog 44 #[.pointer (some ⟨p, 0, none⟩)] w (ItemP p base c s A N cap zs (er, noIt, a) w) := by
  have hp := h.plt
  have hb0 : Below w.heap.size w (w.alloc (.cells #[.int .i64 0, .int .u64 0, .string ⟨#[]⟩] 58)) := (Below.refl _ w).alloc (Nat.le_refl _) _
  have h0 := h.keep hb0
  have hH := hed_any p A N cap a zs _ h0.rd h0.by_
  rw [hh] at hH
  have HH := Lib.hid hH
  have HX := Lib.hid (Box.new w 0 0 ⟨#[]⟩)
  have HR0 := Lib.hid (RF.of_below hb0 hp)
  have HS0 := Lib.hid h0
  have HP := Lib.hid hpl
  have HL := Lib.hid hL
  have HD := Lib.hid hD
  have HE := Lib.hid hE
  have HN0 : (0 : Int) ≤ n := by omega
  have HK0 := hk0
  have HK1 := hk1
  have HK7 := Lib.hid hk7
  have hne : (er != 0) = true := by simpa using he
  have HDS : (⟨#[]⟩ : ByteArray).size ≤ 1100 := by decide
  clear h h0 hH hb0 hh hpl hL hD hE hk7
  go_enter Tryd.func44, Tryd.ntmps44
  go_wp2_with (first
    | (go_at_call 64; refine HH.out.mono ?_; rintro e w2 ⟨rfl, hr2, hd2⟩; have hs2 := HS0.out.rf hr2 (hd2 rfl); have hx2 := HX.out.rf hr2 (by omega); have HR2 := Lib.hid hr2; have HS2 := Lib.hid hs2; have HX2 := Lib.hid hx2; clear hr2 hx2 hd2 hs2)
    | fail)
  refine (place_b HS2.out k HP.out).mono ?_
  rintro e w3 ⟨rfl, hb3⟩
  have hs3 := HS2.out.keep hb3
  have hx3 := HX2.out.keep hb3
  have HR3 := Lib.hid ((HR0.out.trans HR2.out).trans (RF.of_below hb3 HS2.out.plt))
  have HS3 := Lib.hid hs3
  have HX3 := Lib.hid hx3
  clear hb3 hs3 hx3
  go_wp2_with (first
    | (go_at_call 57; refine (tooLarge_any _ _ _).mono ?_; rintro e w4 ⟨rfl, rfl⟩; rw [HL.out])
    | (go_at_call 65; refine (hasData_any _ _).mono ?_; rintro e w5 ⟨rfl, rfl⟩; rw [HD.out])
    | fail)
  have hw3 := HX3.out.lt
  refine gen_world (fun W => Ahead w W p base c s A N cap a2 zs w3.heap.size k n ⟨#[]⟩) ?_ ?_
  · have hb4 : Below w3.heap.size w3 (w3.alloc (.cells #[.int .i64 k, .int .u64 n, .string ⟨#[]⟩] 58)) := (Below.refl _ w3).alloc (Nat.le_refl _) _
    exact ⟨HS3.out.keep hb4, Box.new w3 k n ⟨#[]⟩, HX3.out.keep hb4, HR3.out.trans (RF.of_below hb4 HS3.out.plt), hw3⟩
  intro w6 ha
  have HA := Lib.hid ha
  clear ha
  refine held_begin (by kernel_rfl) ?_
  refine held_take (i := 0) (v := ?_) rfl rfl (by kernel_rfl) (by kernel_rfl) (by kernel_rfl) (fun _ _ _ h => h) (by rfl) ?_ ?_
  rotate_left
  · intro W hW
    go_simp
    try with_reducible rfl
  simp only [Act.put, List.setIfInBounds_toArray, List.set_cons_zero, List.set_cons_succ]
  refine held_take (i := 1) (v := ?_) rfl rfl (by kernel_rfl) (by kernel_rfl) (by kernel_rfl) (fun _ _ _ h => h) (by rfl) ?_ ?_
  rotate_left
  · intro W hW
    go_simp
    try with_reducible rfl
  simp only [Act.put, List.setIfInBounds_toArray, List.set_cons_zero, List.set_cons_succ]
  refine held_take (i := 2) (v := ?_) rfl rfl (by kernel_rfl) (by kernel_rfl) (by kernel_rfl) (fun _ _ _ h => h) (by rfl) ?_ ?_
  rotate_left
  · intro W hW
    go_simp
    try with_reducible rfl
  simp only [Act.put, List.setIfInBounds_toArray, List.set_cons_zero, List.set_cons_succ]
  refine held_take (i := 3) (v := ?_) rfl rfl (by kernel_rfl) (by kernel_rfl) (by kernel_rfl) (fun _ _ _ h => h) (by rfl) ?_ ?_
  rotate_left
  · intro W hW
    obtain ⟨q0, q1, q2, _, _, _⟩ := ((HA.out.keep (⟨rfl, rfl, rfl, Nat.le_refl _, fun _ _ => rfl⟩ : Below w6.heap.size w6 w6.drew)).box.keep hW).cells
    go_simp
    try with_reducible rfl
  simp only [Act.put, List.setIfInBounds_toArray, List.set_cons_zero, List.set_cons_succ]
  refine held_call (i := 4) (by kernel_rfl) rfl (fun K' hK => ?_)
  go_simp
  refine (content_b (HA.out.keep (⟨rfl, rfl, rfl, Nat.le_refl _, fun _ _ => rfl⟩ : Below w6.heap.size w6 w6.drew)).rds k n ⟨#[]⟩ HE.out HN0 HK0 HK1 HK7.out HDS).mono ?_
  rintro e w7 ⟨rfl, hb⟩
  refine hK.out _ _ hb ?_
  clear hK K'
  have HA7 := Lib.hid ((HA.out.keep (⟨rfl, rfl, rfl, Nat.le_refl _, fun _ _ => rfl⟩ : Below w6.heap.size w6 w6.drew)).keep hb)
  clear hb
  refine held_take (i := 5) (v := ?_) rfl rfl (by kernel_rfl) (by kernel_rfl) (by kernel_rfl) (fun _ _ _ h => h) (by rfl) ?_ ?_
  rotate_left
  · intro W hW
    go_simp
    try with_reducible rfl
  simp only [Act.put, List.setIfInBounds_toArray, List.set_cons_zero, List.set_cons_succ]
  refine wpAnyH_done (by kernel_rfl) ?_ _
  obtain ⟨y0, y1, y2, f0, f1, f2⟩ := HA7.out.res.cells
  go_wp2
  refine bodyPost_ret (v := .tuple #[itemV 0 0 ⟨#[]⟩, .int .i64 er]) (by simp [results, Tryd.results44, go_sem, y0, y1, y2]) rfl ⟨rfl, ?_, fun h0 => absurd h0 he⟩
  exact ((HA7.out.rf.setNew (Nat.le_refl _) hp _ _).setNew (Nat.le_refl _) hp _ _).setNew (Nat.le_refl _) hp _ _

set_option maxHeartbeats 2000000 in
theorem itm_data_ok (p base c : Nat) (s : List Lv) (A : Option Addr) (N cap a a2 nn : Nat) (zs : List Int) (k n : Int) (w : World) (h : RdS w p base c s A N cap a zs) (hh : headE zs N a = (k, n, 0, a2)) (hpl : placeE c s k = 0) (hL : tooLargeB k n = false) (hD : hasDataB k = true) (hn : a2 + nn ≤ N) (hnn : n = nn) (hn1 : nn ≤ 1024) (hk0 : 1 ≤ k) (hk1 : k ≤ 8) (hn0 : 0 ≤ n) (hk7 : k = 7 → (0 : Int) ≤ 1) (hE : contentE s k 0 (strOfNums ((zs.drop a2).take nn)) = 0) :
    Calls Tryd.prog 44 #[.pointer (some ⟨p, 0, none⟩)] w (ItemP p base c s A N cap zs (0, ⟨k, 0, (strOfNums ((zs.drop a2).take nn))⟩, (a2 + nn)) w) := by
  subst hnn
  have hp := h.plt
  have hb0 : Below w.heap.size w (w.alloc (.cells #[.int .i64 0, .int .u64 0, .string ⟨#[]⟩] 58)) := (Below.refl _ w).alloc (Nat.le_refl _) _
  have h0 := h.keep hb0
  have hH := hed_any p A N cap a zs _ h0.rd h0.by_
  rw [hh] at hH
  have HH := Lib.hid hH
  have HX := Lib.hid (Box.new w 0 0 ⟨#[]⟩)
  have HR0 := Lib.hid (RF.of_below hb0 hp)
  have HS0 := Lib.hid h0
  have HP := Lib.hid hpl
  have HL := Lib.hid hL
  have HD := Lib.hid hD
  have HE := Lib.hid hE
  have HN0 : (0 : Int) ≤ 0 := by omega
  have HK0 := hk0
  have HK1 := hk1
  have HK7 := Lib.hid hk7
  have HDS : (strOfNums ((zs.drop a2).take nn)).size ≤ 1100 := by rw [strOfNums_size]; simp; omega
  generalize hD2 : strOfNums ((zs.drop a2).take nn) = D2 at *
  have HD2 := Lib.hid hD2
  clear hD2
  have HWW := Lib.hid h
  clear h h0 hH hb0 hh hpl hL hD hE hk7
  go_enter Tryd.func44, Tryd.ntmps44
  go_wp2_with (first
    | (go_at_call 64; refine HH.out.mono ?_; rintro e w2 ⟨rfl, hr2, hd2⟩; have hs2 := HS0.out.rf hr2 (hd2 rfl); have hx2 := HX.out.rf hr2 (by omega); have HR2 := Lib.hid hr2; have HS2 := Lib.hid hs2; have HX2 := Lib.hid hx2; clear hr2 hx2 hd2 hs2)
    | fail)
  refine (place_b HS2.out k HP.out).mono ?_
  rintro e w3 ⟨rfl, hb3⟩
  have hs3 := HS2.out.keep hb3
  have hx3 := HX2.out.keep hb3
  have HR3 := Lib.hid ((HR0.out.trans HR2.out).trans (RF.of_below hb3 HS2.out.plt))
  have HS3 := Lib.hid hs3
  have HX3 := Lib.hid hx3
  clear hb3 hs3 hx3
  go_wp2_with (first
    | (go_at_call 57; refine (tooLarge_any _ _ _).mono ?_; rintro e w4 ⟨rfl, rfl⟩; rw [HL.out])
    | (go_at_call 65; refine (hasData_any _ _).mono ?_; rintro e w5 ⟨rfl, rfl⟩; rw [HD.out])
    | fail)
  have hb4 : Below w3.heap.size w3 (w3.alloc (.cells #[.int .i64 k, .int .u64 nn, .string ⟨#[]⟩] 58)) := (Below.refl _ w3).alloc (Nat.le_refl _) _
  have hs4 := HS3.out.keep hb4
  refine (tak_yes p A N cap a2 nn _ hs4.rd hn).mono ?_
  rintro e w5 ⟨rfl, hr5, hd5⟩
  have hs5 := hs4.rf hr5 hd5
  have hcv := conv_bys (cap := cap - a2) (hs5.by_.1.cut a2 nn hn hs5.rd.hcap)
  rw [HD2.out] at hcv
  have hbx := (Box.new w3 k nn ⟨#[]⟩).rf hr5 (by have := HS3.out.plt; omega)
  have hx5 := (HX3.out.keep hb4).rf hr5 (by omega)
  have hr35 := (RF.of_below hb4 HS3.out.plt).trans hr5
  have hw3 := HX3.out.lt
  have hp3 := HS3.out.plt
  have HS5 := Lib.hid hs5
  have HBX := Lib.hid hbx
  have HX5 := Lib.hid hx5
  have HR35 := Lib.hid hr35
  obtain ⟨g0, g1, g2, u0, u1, u2⟩ := hbx.cells
  clear hb4 hs4 hr5 hd5 hs5 hbx hx5 hr35
  go_wp2
  refine gen_world (fun W => Ahead w W p base c s A N cap (a2 + nn) zs w3.heap.size k 0 D2 ∧ (∀ W0 : World, True)) ⟨⟨?_, HBX.out.set3, ?_, ?_, hw3⟩, fun _ => trivial⟩ ?_
  · exact HS3.out.rf (((HR35.out.setNew (Nat.le_refl _) hp3 _ _).setNew (Nat.le_refl _) hp3 _ _).setNew (Nat.le_refl _) hp3 _ _) (((HS5.out.rd.far (by omega) _ _).far (by omega) _ _).far (by omega) _ _)
  · exact ((HX5.out.far (by omega) _ _).far (by omega) _ _).far (by omega) _ _
  · exact HR3.out.trans (((HR35.out.setNew (Nat.le_refl _) hp3 _ _).setNew (Nat.le_refl _) hp3 _ _).setNew (Nat.le_refl _) hp3 _ _)
  intro w6 ⟨ha, _⟩
  have HA := Lib.hid ha
  clear ha g0 g1 g2 u0 u1 u2 hcv
  refine held_begin (by kernel_rfl) ?_
  refine held_take (i := 0) (v := ?_) rfl rfl (by kernel_rfl) (by kernel_rfl) (by kernel_rfl) (fun _ _ _ h => h) (by rfl) ?_ ?_
  rotate_left
  · intro W hW
    go_simp
    try with_reducible rfl
  simp only [Act.put, List.setIfInBounds_toArray, List.set_cons_zero, List.set_cons_succ]
  refine held_take (i := 1) (v := ?_) rfl rfl (by kernel_rfl) (by kernel_rfl) (by kernel_rfl) (fun _ _ _ h => h) (by rfl) ?_ ?_
  rotate_left
  · intro W hW
    go_simp
    try with_reducible rfl
  simp only [Act.put, List.setIfInBounds_toArray, List.set_cons_zero, List.set_cons_succ]
  refine held_take (i := 2) (v := ?_) rfl rfl (by kernel_rfl) (by kernel_rfl) (by kernel_rfl) (fun _ _ _ h => h) (by rfl) ?_ ?_
  rotate_left
  · intro W hW
    go_simp
    try with_reducible rfl
  simp only [Act.put, List.setIfInBounds_toArray, List.set_cons_zero, List.set_cons_succ]
  refine held_take (i := 3) (v := ?_) rfl rfl (by kernel_rfl) (by kernel_rfl) (by kernel_rfl) (fun _ _ _ h => h) (by rfl) ?_ ?_
  rotate_left
  · intro W hW
    obtain ⟨q0, q1, q2, _, _, _⟩ := ((HA.out.keep (⟨rfl, rfl, rfl, Nat.le_refl _, fun _ _ => rfl⟩ : Below w6.heap.size w6 w6.drew)).box.keep hW).cells
    go_simp
    try with_reducible rfl
  simp only [Act.put, List.setIfInBounds_toArray, List.set_cons_zero, List.set_cons_succ]
  refine held_call (i := 4) (by kernel_rfl) rfl (fun K' hK => ?_)
  go_simp
  refine (content_b (HA.out.keep (⟨rfl, rfl, rfl, Nat.le_refl _, fun _ _ => rfl⟩ : Below w6.heap.size w6 w6.drew)).rds k 0 D2 HE.out HN0 HK0 HK1 HK7.out HDS).mono ?_
  rintro e w7 ⟨rfl, hb⟩
  refine hK.out _ _ hb ?_
  clear hK K'
  have HA7 := Lib.hid ((HA.out.keep (⟨rfl, rfl, rfl, Nat.le_refl _, fun _ _ => rfl⟩ : Below w6.heap.size w6 w6.drew)).keep hb)
  clear hb
  refine held_take (i := 5) (v := ?_) rfl rfl (by kernel_rfl) (by kernel_rfl) (by kernel_rfl) (fun _ _ _ h => h) (by rfl) ?_ ?_
  rotate_left
  · intro W hW
    go_simp
    try with_reducible rfl
  simp only [Act.put, List.setIfInBounds_toArray, List.set_cons_zero, List.set_cons_succ]
  refine wpAnyH_done (by kernel_rfl) ?_ _
  obtain ⟨y0, y1, y2, f0, f1, f2⟩ := HA7.out.res.cells
  obtain ⟨z0, z1, z2, _, _, _⟩ := HA7.out.box.cells
  go_wp2
  refine bodyPost_ret (v := .tuple #[itemV k 0 D2, .int .i64 0]) (by simp [results, Tryd.results44, go_sem, y0, y1, y2]) rfl ⟨rfl, ?_, fun _ => ?_⟩
  · exact ((HA7.out.rf.setNew (Nat.le_refl _) hp _ _).setNew (Nat.le_refl _) hp _ _).setNew (Nat.le_refl _) hp _ _
  · exact HWW.out.rf (((HA7.out.rf.setNew (Nat.le_refl _) hp _ _).setNew (Nat.le_refl _) hp _ _).setNew (Nat.le_refl _) hp _ _) (((HA7.out.rds.rd.far (by omega) _ _).far (by omega) _ _).far (by omega) _ _)

set_option maxHeartbeats 2000000 in
theorem itm_plain_ok (p base c : Nat) (s : List Lv) (A : Option Addr) (N cap a a2 : Nat) (zs : List Int) (k n : Int) (w : World) (h : RdS w p base c s A N cap a zs) (hh : headE zs N a = (k, n, 0, a2)) (hpl : placeE c s k = 0) (hL : tooLargeB k n = false) (hD : hasDataB k = false) (hk0 : 1 ≤ k) (hk1 : k ≤ 8) (hn0 : 0 ≤ n) (hk7 : k = 7 → (n : Int) ≤ 1) (hE : contentE s k n ⟨#[]⟩ = 0) :
    Calls Tryd.prog 44 #[.pointer (some ⟨p, 0, none⟩)] w (ItemP p base c s A N cap zs (0, ⟨k, n, ⟨#[]⟩⟩, a2) w) := by
  have hp := h.plt
  have hb0 : Below w.heap.size w (w.alloc (.cells #[.int .i64 0, .int .u64 0, .string ⟨#[]⟩] 58)) := (Below.refl _ w).alloc (Nat.le_refl _) _
  have h0 := h.keep hb0
  have hH := hed_any p A N cap a zs _ h0.rd h0.by_
  rw [hh] at hH
  have HH := Lib.hid hH
  have HX := Lib.hid (Box.new w 0 0 ⟨#[]⟩)
  have HR0 := Lib.hid (RF.of_below hb0 hp)
  have HS0 := Lib.hid h0
  have HP := Lib.hid hpl
  have HL := Lib.hid hL
  have HD := Lib.hid hD
  have HE := Lib.hid hE
  have HN0 : (0 : Int) ≤ n := by omega
  have HK0 := hk0
  have HK1 := hk1
  have HK7 := Lib.hid hk7
  have HDS : (⟨#[]⟩ : ByteArray).size ≤ 1100 := by decide
  have HWW := Lib.hid h
  clear h h0 hH hb0 hh hpl hL hD hE hk7
  go_enter Tryd.func44, Tryd.ntmps44
  go_wp2_with (first
    | (go_at_call 64; refine HH.out.mono ?_; rintro e w2 ⟨rfl, hr2, hd2⟩; have hs2 := HS0.out.rf hr2 (hd2 rfl); have hx2 := HX.out.rf hr2 (by omega); have HR2 := Lib.hid hr2; have HS2 := Lib.hid hs2; have HX2 := Lib.hid hx2; clear hr2 hx2 hd2 hs2)
    | fail)
  refine (place_b HS2.out k HP.out).mono ?_
  rintro e w3 ⟨rfl, hb3⟩
  have hs3 := HS2.out.keep hb3
  have hx3 := HX2.out.keep hb3
  have HR3 := Lib.hid ((HR0.out.trans HR2.out).trans (RF.of_below hb3 HS2.out.plt))
  have HS3 := Lib.hid hs3
  have HX3 := Lib.hid hx3
  clear hb3 hs3 hx3
  go_wp2_with (first
    | (go_at_call 57; refine (tooLarge_any _ _ _).mono ?_; rintro e w4 ⟨rfl, rfl⟩; rw [HL.out])
    | (go_at_call 65; refine (hasData_any _ _).mono ?_; rintro e w5 ⟨rfl, rfl⟩; rw [HD.out])
    | fail)
  have hw3 := HX3.out.lt
  refine gen_world (fun W => Ahead w W p base c s A N cap a2 zs w3.heap.size k n ⟨#[]⟩) ?_ ?_
  · have hb4 : Below w3.heap.size w3 (w3.alloc (.cells #[.int .i64 k, .int .u64 n, .string ⟨#[]⟩] 58)) := (Below.refl _ w3).alloc (Nat.le_refl _) _
    exact ⟨HS3.out.keep hb4, Box.new w3 k n ⟨#[]⟩, HX3.out.keep hb4, HR3.out.trans (RF.of_below hb4 HS3.out.plt), hw3⟩
  intro w6 ha
  have HA := Lib.hid ha
  clear ha
  refine held_begin (by kernel_rfl) ?_
  refine held_take (i := 0) (v := ?_) rfl rfl (by kernel_rfl) (by kernel_rfl) (by kernel_rfl) (fun _ _ _ h => h) (by rfl) ?_ ?_
  rotate_left
  · intro W hW
    go_simp
    try with_reducible rfl
  simp only [Act.put, List.setIfInBounds_toArray, List.set_cons_zero, List.set_cons_succ]
  refine held_take (i := 1) (v := ?_) rfl rfl (by kernel_rfl) (by kernel_rfl) (by kernel_rfl) (fun _ _ _ h => h) (by rfl) ?_ ?_
  rotate_left
  · intro W hW
    go_simp
    try with_reducible rfl
  simp only [Act.put, List.setIfInBounds_toArray, List.set_cons_zero, List.set_cons_succ]
  refine held_take (i := 2) (v := ?_) rfl rfl (by kernel_rfl) (by kernel_rfl) (by kernel_rfl) (fun _ _ _ h => h) (by rfl) ?_ ?_
  rotate_left
  · intro W hW
    go_simp
    try with_reducible rfl
  simp only [Act.put, List.setIfInBounds_toArray, List.set_cons_zero, List.set_cons_succ]
  refine held_take (i := 3) (v := ?_) rfl rfl (by kernel_rfl) (by kernel_rfl) (by kernel_rfl) (fun _ _ _ h => h) (by rfl) ?_ ?_
  rotate_left
  · intro W hW
    obtain ⟨q0, q1, q2, _, _, _⟩ := ((HA.out.keep (⟨rfl, rfl, rfl, Nat.le_refl _, fun _ _ => rfl⟩ : Below w6.heap.size w6 w6.drew)).box.keep hW).cells
    go_simp
    try with_reducible rfl
  simp only [Act.put, List.setIfInBounds_toArray, List.set_cons_zero, List.set_cons_succ]
  refine held_call (i := 4) (by kernel_rfl) rfl (fun K' hK => ?_)
  go_simp
  refine (content_b (HA.out.keep (⟨rfl, rfl, rfl, Nat.le_refl _, fun _ _ => rfl⟩ : Below w6.heap.size w6 w6.drew)).rds k n ⟨#[]⟩ HE.out HN0 HK0 HK1 HK7.out HDS).mono ?_
  rintro e w7 ⟨rfl, hb⟩
  refine hK.out _ _ hb ?_
  clear hK K'
  have HA7 := Lib.hid ((HA.out.keep (⟨rfl, rfl, rfl, Nat.le_refl _, fun _ _ => rfl⟩ : Below w6.heap.size w6 w6.drew)).keep hb)
  clear hb
  refine held_take (i := 5) (v := ?_) rfl rfl (by kernel_rfl) (by kernel_rfl) (by kernel_rfl) (fun _ _ _ h => h) (by rfl) ?_ ?_
  rotate_left
  · intro W hW
    go_simp
    try with_reducible rfl
  simp only [Act.put, List.setIfInBounds_toArray, List.set_cons_zero, List.set_cons_succ]
  refine wpAnyH_done (by kernel_rfl) ?_ _
  obtain ⟨y0, y1, y2, f0, f1, f2⟩ := HA7.out.res.cells
  obtain ⟨z0, z1, z2, _, _, _⟩ := HA7.out.box.cells
  go_wp2
  refine bodyPost_ret (v := .tuple #[itemV k n ⟨#[]⟩, .int .i64 0]) (by simp [results, Tryd.results44, go_sem, y0, y1, y2]) rfl ⟨rfl, ?_, fun _ => ?_⟩
  · exact ((HA7.out.rf.setNew (Nat.le_refl _) hp _ _).setNew (Nat.le_refl _) hp _ _).setNew (Nat.le_refl _) hp _ _
  · exact HWW.out.rf (((HA7.out.rf.setNew (Nat.le_refl _) hp _ _).setNew (Nat.le_refl _) hp _ _).setNew (Nat.le_refl _) hp _ _) (((HA7.out.rds.rd.far (by omega) _ _).far (by omega) _ _).far (by omega) _ _)

end Go.Proofs.YtepinmeidjlmmaaDoor
