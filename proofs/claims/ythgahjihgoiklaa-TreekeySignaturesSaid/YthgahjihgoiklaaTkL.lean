/- EncodeSignature of the program. -/
import Derived.Test.YthgahjihgoiklaaTkK
import Derived.Test.YthgahjihgoiklaaTkI
namespace Go.Proofs.Ythgahjihgoiklaa
open Go.RowKit
set_option maxRecDepth 100000

/-- the bytes of a signature -/
def sigB (l : Int) (cs ps : List (BitVec 64)) : List Int := [l, (ps.length : Int)] ++ wsBytes cs ++ wsBytes ps
theorem leaf_small {h l : Nat} (hh : leafB (h : Int) (l : Int) = true) : h ≤ 4 ∧ l < 2 ^ h ∧ l < 16 := by
  have hl := leaf_lt hh
  have hb := hgt_cases hl.1
  have hh4 : h ≤ 4 := by omega
  have hp := pow_le h hh4
  have h2 := hl.2.2
  rw [Int.toNat_natCast] at h2
  have h3 : l < 2 ^ h := by exact_mod_cast h2
  omega
theorem Row.mono {w : World} {base base' n : Nat} {v : Value} {zs : List Int} (h : Row w base v n zs) (hb : base' ≤ base) : Row w base' v n zs := by
  rcases h.2 with h0 | ⟨g, cap, hv, hg, rest⟩
  · exact ⟨h.1, .inl h0⟩
  · exact ⟨h.1, .inr ⟨g, cap, hv, Nat.le_trans hb hg, rest⟩⟩
theorem two_bytes (w : World) (x y : Int) (hx : 0 ≤ x ∧ x ≤ 255) (hy : 0 ≤ y ∧ y ≤ 255) : Bytes (w.alloc (.cells #[.int .u8 x, .int .u8 y] 5)) (some ⟨w.heap.size, 0, none⟩) 2 [x, y] := by
  have hc := Cs.new w 5 [.int .u8 x, .int .u8 y]
  refine ⟨rfl, fun z hz => by simp at hz; rcases hz with rfl | rfl <;> assumption, fun i hi => ⟨_, rfl, ?_⟩⟩
  rw [addr_add]
  refine (hc.cell i).trans ?_
  rcases (by omega : i = 0 ∨ i = 1) with rfl | rfl <;> rfl
set_option maxHeartbeats 1000000 in
theorem encS_range (l : Int) (A B : Option Addr) (n c n2 c2 : Nat) (hh : leafB (n2 : Int) l = false) (w : World) :
    Calls Try.prog 29 #[.agg #[.int .i64 l, .slice A n c, .slice B n2 c2]] w fun e w' => e = .returned (.tuple #[.slice none 0 0, .int .i64 9]) ∧ Below w.heap.size w w' := by
  have HH := Lib.hid hh
  clear hh
  go_enter Try.func29, Try.ntmps29
  go_wp2_with fail
  refine (hasLeaf_any _ _ _).mono ?_
  rintro e w' ⟨rfl, rfl⟩
  rw [HH.out]
  go_wp2
  go_ret2
  exact ⟨rfl, (Below.refl _ _).alloc (Nat.le_refl _) _⟩
set_option maxHeartbeats 1000000 in
theorem encS_shape (l : Int) (A B : Option Addr) (n c n2 c2 : Nat) (hh : leafB (n2 : Int) l = true) (hn : n ≠ 18) (w : World) :
    Calls Try.prog 29 #[.agg #[.int .i64 l, .slice A n c, .slice B n2 c2]] w fun e w' => e = .returned (.tuple #[.slice none 0 0, .int .i64 4]) ∧ Below w.heap.size w w' := by
  have HH := Lib.hid hh
  clear hh
  go_enter Try.func29, Try.ntmps29
  go_wp2_with fail
  refine (hasLeaf_any _ _ _).mono ?_
  rintro e w' ⟨rfl, rfl⟩
  rw [HH.out]
  go_wp2
  go_ret2
  exact ⟨rfl, (Below.refl _ _).alloc (Nat.le_refl _) _⟩
theorem two_blocks {P : Program} {code : Code} {Q : Exit → Act → World → Prop} {a : Act} {w : World} (t1 t2 : TypeId) (v1 v2 : List Value)
    (h : ∀ W, Cs W w.heap.size t1 v1 → Cs W (w.heap.size + 1) t2 v2 → Below w.heap.size w W → w.heap.size + 2 ≤ W.heap.size → Code.wp P code Q a W) :
    Code.wp P code Q a ((w.alloc (.cells v1.toArray t1)).alloc (.cells v2.toArray t2)) := by
  refine h _ ((Cs.new w t1 v1).below ((Below.refl _ _).alloc (Nat.le_refl _) _) (by simp)) ?_ ?_ (by simp)
  · have h2 := Cs.new (w.alloc (.cells v1.toArray t1)) t2 v2
    rwa [World.size_alloc] at h2
  · exact ((Below.refl _ w).alloc (Nat.le_refl _) _).alloc (by simp) _
set_option maxHeartbeats 2000000 in
theorem encS_ok (l h : Nat) (A B : Option Addr) (c c2 : Nat) (cs ps : List (BitVec 64)) (hh : leafB (h : Int) (l : Int) = true) (w : World) (hA : Ws w A 18 cs) (hB : Ws w B h ps) :
    Calls Try.prog 29 #[.agg #[.int .i64 (l : Int), .slice A 18 c, .slice B h c2]] w fun e w' => ∃ v, e = .returned (.tuple #[v, .int .i64 0]) ∧ Row w' w.heap.size v (146 + 8 * h) (sigB l cs ps) ∧ Below w.heap.size w w' := by
  have HH := Lib.hid hh
  obtain ⟨hh4, _, hl16⟩ := leaf_small hh
  have hlc := hA.len
  have hlp := hB.len
  have HLC := Lib.hid hlc
  have HLP := Lib.hid hlp
  have HA := Lib.hid hA
  have HB := Lib.hid hB
  have hlI : (l : Int) ≤ 15 := by omega
  have hl0 : (0 : Int) ≤ (l : Int) := by omega
  have hhI : (h : Int) ≤ 4 := by omega
  clear hh hA hB hlc hlp
  go_enter Try.func29, Try.ntmps29
  go_wp2_with fail
  refine (hasLeaf_any _ _ _).mono ?_
  rintro e w' ⟨rfl, rfl⟩
  rw [HH.out]
  go_wp2
  refine two_blocks _ _ [.int .i64 (l : Int), .slice A 18 c, .slice B h c2] [.int .u8 (l : Int), .int .u8 (h : Int)] ?_
  intro w1 hs1 hd1 hb1 hsz1
  have hls := hs1.lt
  have hld := hd1.lt
  have HS := Lib.hid hs1
  have HD := Lib.hid hd1
  have HB1 := Lib.hid hb1
  have HA1 := Lib.hid (HA.out.below hb1)
  have HP1 := Lib.hid (HB.out.below hb1)
  clear hs1 hd1 hb1
  refine wp_region_held (S := fun W => Below w1.heap.size w1 W) (by kernel_rfl) ?_
  refine heldS_take (i := 0) (v := ?_) rfl rfl (by kernel_rfl) (by kernel_rfl) (by kernel_rfl) (fun _ _ _ h => h) (by rfl) ((Below.refl _ w1).drew) ?_ ?_
  rotate_left
  · intro W hW
    go_simp
    try with_reducible rfl
  simp only [Act.put, List.setIfInBounds_toArray, List.set_cons_zero, List.set_cons_succ]
  refine heldS_take (i := 1) (v := ?_) rfl rfl (by kernel_rfl) (by kernel_rfl) (by kernel_rfl) (fun _ _ _ h => h) (by rfl) ((Below.refl _ w1).drew) ?_ ?_
  rotate_left
  · intro W hW
    go_simp
    try with_reducible rfl
  simp only [Act.put, List.setIfInBounds_toArray, List.set_cons_zero, List.set_cons_succ]
  refine heldS_take (i := 2) (v := ?_) rfl rfl (by kernel_rfl) (by kernel_rfl) (by kernel_rfl) (fun _ _ _ h => h) (by rfl) ((Below.refl _ w1).drew) ?_ ?_
  rotate_left
  · intro W hW
    have e1 := (HS.out.below hW hls).cell 1
    simp only [List.getElem?_cons_succ, List.getElem?_cons_zero] at e1
    go_simp
    try with_reducible rfl
  simp only [Act.put, List.setIfInBounds_toArray, List.set_cons_zero, List.set_cons_succ]
  refine heldS_take (i := 4) (v := ?_) rfl rfl (by kernel_rfl) (by kernel_rfl) (by kernel_rfl) (fun _ _ _ h => h) (by rfl) ((Below.refl _ w1).drew) ?_ ?_
  rotate_left
  · intro W hW
    go_simp
    try with_reducible rfl
  simp only [Act.put, List.setIfInBounds_toArray, List.set_cons_zero, List.set_cons_succ]
  refine heldS_take (i := 5) (v := ?_) rfl rfl (by kernel_rfl) (by kernel_rfl) (by kernel_rfl) (fun _ _ _ h => h) (by rfl) ((Below.refl _ w1).drew) ?_ ?_
  rotate_left
  · intro W hW
    have e2 := (HS.out.below hW hls).cell 2
    simp only [List.getElem?_cons_succ, List.getElem?_cons_zero] at e2
    go_simp
    try with_reducible rfl
  simp only [Act.put, List.setIfInBounds_toArray, List.set_cons_zero, List.set_cons_succ]
  refine heldS_call (i := 3) (by kernel_rfl) rfl (fun K' hK => ?_)
  go_simp
  refine (words_any A 18 c cs _ (HA1.out.below ((Below.refl _ w1).drew)) (by omega)).mono ?_
  rintro e w2 ⟨v2, rfl, ho, hb⟩
  have hS : Below w1.heap.size w1 w2 := ((Below.refl _ w1).drew).trans hb
  refine hK.out _ _ hS ?_
  clear hK K'
  obtain ⟨A2, k2, rfl, h21, h22, hby⟩ := own_bytes ho (wsBytes_rng _)
  have HY2 := Lib.hid hby
  have HB2 := Lib.hid hS
  have hs2 := hS.size
  clear ho hb hS hby h21 h22
  refine heldS_call (i := 6) (by kernel_rfl) rfl (fun K' hK => ?_)
  go_simp
  refine (words_any B h c2 ps _ (HP1.out.below HB2.out) (by omega)).mono ?_
  rintro e w3 ⟨v3, rfl, ho, hb⟩
  have hS : Below w1.heap.size w1 w3 := HB2.out.trans (hb.mono hs2)
  refine hK.out _ _ hS ?_
  clear hK K'
  obtain ⟨A3, k3, rfl, h31, h32, hby⟩ := own_bytes ho (wsBytes_rng _)
  have HY3 := Lib.hid hby
  have HZ3 := Lib.hid (HY2.out.below hb)
  have HB3 := Lib.hid hS
  have hs3 := hS.size
  clear ho hb hS hby h31 h32
  refine heldS_call (i := 7) (by kernel_rfl) rfl (fun K' hK => ?_)
  go_simp
  refine hK.out _ _ (HB3.out.alloc hs3 _) ?_
  clear hK K'
  have hbb : BB (w3.alloc (.cells #[.slice (some ⟨w.heap.size + 1, 0, none⟩) 2 2, .slice A2 (8 * 18) k2, .slice A3 (8 * h) k3] 43)) w3.heap.size [[(l : Int), (h : Int)], wsBytes cs, wsBytes ps] := by
    have hcn := Cs.new w3 43 [.slice (some ⟨w.heap.size + 1, 0, none⟩) 2 2, .slice A2 (8 * 18) k2, .slice A3 (8 * h) k3]
    have hgr : Below w3.heap.size w3 (w3.alloc (.cells #[.slice (some ⟨w.heap.size + 1, 0, none⟩) 2 2, .slice A2 (8 * 18) k2, .slice A3 (8 * h) k3] 43)) := (Below.refl _ w3).alloc (Nat.le_refl _) _
    have hd3 := (HD.out.below HB3.out hld).below hgr (by omega)
    intro i hi
    match i, hi with
    | 0, _ =>
      refine ⟨some ⟨w.heap.size + 1, 0, none⟩, 2, hcn.cell 0, rfl, fun z hz => by simp at hz; rcases hz with rfl | rfl <;> omega, fun j hj => ⟨_, rfl, ?_⟩⟩
      rw [addr_add]
      refine (hd3.cell j).trans ?_
      rcases (by simp at hj; omega : j = 0 ∨ j = 1) with rfl | rfl <;> rfl
    | 1, _ =>
      have hy := HZ3.out.below hgr
      have e : ([[(l : Int), (h : Int)], wsBytes cs, wsBytes ps][1]).length = 8 * 18 := hy.len
      refine ⟨A2, k2, ?_, ?_⟩
      · rw [e]; exact hcn.cell 1
      · rw [e]; exact hy
    | 2, _ =>
      have hy := HY3.out.below hgr
      have e : ([[(l : Int), (h : Int)], wsBytes cs, wsBytes ps][2]).length = 8 * h := hy.len
      refine ⟨A3, k3, ?_, ?_⟩
      · rw [e]; exact hcn.cell 2
      · rw [e]; exact hy
  have htot : totB [[(l : Int), (h : Int)], wsBytes cs, wsBytes ps] = 146 + 8 * h := by
    simp [totB, wsBytes_len, HLC.out, HLP.out]; omega
  have HBB := Lib.hid hbb
  have HT := Lib.hid htot
  clear hbb htot
  refine heldS_call (i := 8) (by kernel_rfl) rfl (fun K' hK => ?_)
  go_simp
  refine (concatB_any w3.heap.size 3 3 _ _ HBB.out (by rw [HT.out]; omega) (by rw [HT.out]; omega) rfl (by omega)).mono ?_
  rintro e w4 ⟨v4, rfl, ho, hb⟩
  have hS : Below w1.heap.size w1 w4 := (HB3.out.alloc hs3 _).trans (hb.mono (by simp; omega))
  refine hK.out _ _ hS ?_
  clear hK K'
  rw [HT.out] at ho
  have HO4 := Lib.hid ho
  have HB4 := Lib.hid hS
  clear ho hb hS
  refine heldS_call (i := 9) (by kernel_rfl) rfl (fun K' hK => ?_)
  go_simp
  refine hK.out _ _ (HB4.out) ?_
  clear hK K'
  refine heldS_call (i := 10) (by kernel_rfl) rfl (fun K' hK => ?_)
  go_simp
  refine hK.out _ _ (HB4.out) ?_
  clear hK K'
  refine wpAnyH_done (by kernel_rfl) ?_ _
  go_wp2
  go_ret2
  refine ⟨v4, rfl, ?_, HB1.out.trans (HB4.out.mono (by omega))⟩
  have e : [[(l : Int), (h : Int)], wsBytes cs, wsBytes ps].flatten = sigB (l : Int) cs ps := by simp [sigB, HLP.out]
  rw [← e]
  exact HO4.out.mono (by simp; omega)
end Go.Proofs.Ythgahjihgoiklaa
