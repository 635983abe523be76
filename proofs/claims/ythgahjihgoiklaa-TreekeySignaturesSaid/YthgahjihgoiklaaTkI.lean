/- Verify of both. -/
import Derived.Test.YthgahjihgoiklaaTkB
import Derived.Test.YthgahjihgoiklaaRgV
namespace Go.Proofs.Ythgahjihgoiklaa
open Go.RowKit
set_option maxRecDepth 100000

/-- the node that is come to behind k levels, from the leaf l with the word x by the siblings ps -/
def climbF (l : Nat) (x : BitVec 64) (ps : List (BitVec 64)) : Nat → BitVec 64
  | 0 => x
  | k + 1 => if l / 2 ^ k % 2 = 0 then nodeF ((k : Int) + 1) (climbF l x ps k) (ps.getD k 0) else nodeF ((k : Int) + 1) (ps.getD k 0) (climbF l x ps k)
theorem and_one : ∀ a : Fin 16, bits .and .i64 ((a.val : Nat) : Int) 1 = ((a.val % 2 : Nat) : Int) := by decide +kernel
theorem bit_eq (l k : Nat) (hl : l < 16) : ∃ a : Nat, (l : Int) / 2 ^ k = (a : Int) ∧ a ≤ 15 ∧ bits .and .i64 (a : Int) 1 = ((l / 2 ^ k % 2 : Nat) : Int) := by
  have hle : l / 2 ^ k ≤ 15 := Nat.le_trans (Nat.div_le_self _ _) (by omega)
  exact ⟨l / 2 ^ k, by simp, hle, and_one ⟨l / 2 ^ k, by omega⟩⟩
set_option maxHeartbeats 1000000 in
theorem climb_any (l : Nat) (x : BitVec 64) (A : Option Addr) (n c : Nat) (ps : List (BitVec 64)) (w : World) (hw : Ws w A n ps) (hl : l < 16) (hn : n ≤ 60) :
    Calls Try.prog 35 #[.int .i64 (l : Int), .int .u64 (val x), .slice A n c] w fun e w' => e = .returned (.int .u64 (val (climbF l x ps n))) ∧ Below w.heap.size w w' := by
  have HW := Lib.hid hw
  clear hw
  go_enter Try.func35, Try.ntmps35
  go_wp2
  go_loopw [1, 11] (fun v i wr => ∃ k : Nat, i = .int .i64 k ∧ k ≤ n ∧ v = .int .u64 (val (climbF l x ps k)) ∧ Below w.heap.size w wr) (fun _ i _ => n - (intOf i).toNat)
  case atStart => exact ⟨0, rfl, Nat.zero_le _, rfl, Below.refl _ _⟩
  case round =>
    obtain ⟨k, rfl, hk, rfl, hb⟩ := hrel
    have HB := Lib.hid hb
    have hsz := hb.size
    by_cases hkn : k < n
    · obtain ⟨a, ha, ha2, ha3⟩ := bit_eq l k hl
      obtain ⟨p, rfl, hc⟩ := (HW.out.below hb).at_ k hkn
      obtain ⟨r, hr⟩ : ∃ r : Nat, l / 2 ^ k % 2 = r := ⟨_, rfl⟩
      have hr2 : r = 0 ∨ r = 1 := by omega
      obtain ⟨y, hy⟩ : ∃ y, ps.getD k 0 = y := ⟨_, rfl⟩
      have hs : climbF l x ps (k + 1) = if r = 0 then nodeF ((k : Int) + 1) (climbF l x ps k) y else nodeF ((k : Int) + 1) y (climbF l x ps k) := by rw [← hr, ← hy]; rfl
      rw [hr] at ha3
      rw [hy] at hc
      have HS := Lib.hid hs
      have hmk : min k 64 = k := by omega
      generalize climbF l x ps k = z at *
      clear hs hr hy hb
      rcases hr2 with rfl | rfl
      · go_wp2_with fail
        refine (node_any ((k : Int) + 1) z y _).mono ?_
        rintro e w1 ⟨rfl, hb1⟩
        have HB1 := Lib.hid (HB.out.trans (hb1.mono hsz))
        clear hb1 hc
        go_wp2
        go_roundw
        case rel => exact ⟨k + 1, by go_num, by omega, by rw [HS.out]; simp, HB1.out⟩
        case measure => (simp [intOf] <;> omega)
      · go_wp2_with fail
        refine (node_any ((k : Int) + 1) y z _).mono ?_
        rintro e w1 ⟨rfl, hb1⟩
        have HB1 := Lib.hid (HB.out.trans (hb1.mono hsz))
        clear hb1 hc
        go_wp2
        go_roundw
        case rel => exact ⟨k + 1, by go_num, by omega, by rw [HS.out]; simp, HB1.out⟩
        case measure => (simp [intOf] <;> omega)
    · have hk' : k = n := by omega
      subst hk'
      go_wp2
      go_ret
      exact ⟨rfl, HB.out⟩
/-- the verdict about a root -/
def cmpE (a b : BitVec 64) : Int := if a = b then 0 else 15
/-- what Verify answers -/
def verE (h : Int) (root m : BitVec 64) (l : Int) (cs ps : List (BitVec 64)) : Int :=
  if leafB h l = false then 9 else if ps.length = h.toNat then if cs.length = 18 then cmpE (climbF l.toNat (recF l m cs) ps h.toNat) root else 4 else 4
theorem two_cs {P : Program} {code : Code} {Q : Exit → Act → World → Prop} {a : Act} {w : World} (t1 t2 : TypeId) (v1 v2 : List Value)
    (h : ∀ W, Cs W w.heap.size t1 v1 → Cs W (w.heap.size + 1) t2 v2 → Below w.heap.size w W → Code.wp P code Q a W) :
    Code.wp P code Q a ((w.alloc (.cells v1.toArray t1)).alloc (.cells v2.toArray t2)) := by
  refine h _ ((Cs.new w t1 v1).below ((Below.refl _ _).alloc (Nat.le_refl _) _) (by simp)) ?_ ?_
  · have h2 := Cs.new (w.alloc (.cells v1.toArray t1)) t2 v2
    rwa [World.size_alloc] at h2
  · exact ((Below.refl _ w).alloc (Nat.le_refl _) _).alloc (by simp) _
set_option maxHeartbeats 1000000 in
theorem ver_range (h : Int) (root m : BitVec 64) (l : Int) (A B : Option Addr) (n c n2 c2 : Nat) (hh : leafB h l = false) (w : World) :
    Calls Try.prog 17 #[.agg #[.int .i64 h, .int .u64 (val root)], .int .u64 (val m), .agg #[.int .i64 l, .slice A n c, .slice B n2 c2]] w fun e w' => e = .returned (.int .i64 9) ∧ Below w.heap.size w w' := by
  have HH := Lib.hid hh
  clear hh
  go_enter Try.func17, Try.ntmps17
  go_wp2_with fail
  refine (hasLeaf_any h l _).mono ?_
  rintro e w' ⟨rfl, rfl⟩
  rw [HH.out]
  go_wp2
  go_ret
  exact ⟨rfl, ((Below.refl _ _).alloc (Nat.le_refl _) _).alloc (by simp) _⟩
set_option maxHeartbeats 1000000 in
theorem ver_path (h : Int) (root m : BitVec 64) (l : Int) (A B : Option Addr) (n c n2 c2 : Nat) (hh : leafB h l = true) (hn : (n2 : Int) ≠ h) (w : World) :
    Calls Try.prog 17 #[.agg #[.int .i64 h, .int .u64 (val root)], .int .u64 (val m), .agg #[.int .i64 l, .slice A n c, .slice B n2 c2]] w fun e w' => e = .returned (.int .i64 4) ∧ Below w.heap.size w w' := by
  have HH := Lib.hid hh
  clear hh
  go_enter Try.func17, Try.ntmps17
  go_wp2_with fail
  refine (hasLeaf_any h l _).mono ?_
  rintro e w' ⟨rfl, rfl⟩
  rw [HH.out]
  go_wp2
  go_ret
  exact ⟨rfl, ((Below.refl _ _).alloc (Nat.le_refl _) _).alloc (by simp) _⟩
set_option maxHeartbeats 1000000 in
theorem ver_chains (h : Nat) (root m : BitVec 64) (l : Int) (A B : Option Addr) (n c c2 : Nat) (hh : leafB (h : Int) l = true) (hn : n ≠ 18) (w : World) :
    Calls Try.prog 17 #[.agg #[.int .i64 (h : Int), .int .u64 (val root)], .int .u64 (val m), .agg #[.int .i64 l, .slice A n c, .slice B h c2]] w fun e w' => e = .returned (.int .i64 4) ∧ Below w.heap.size w w' := by
  have HH := Lib.hid hh
  clear hh
  go_enter Try.func17, Try.ntmps17
  go_wp2_with fail
  refine (hasLeaf_any h l _).mono ?_
  rintro e w' ⟨rfl, rfl⟩
  rw [HH.out]
  go_wp2_with fail
  refine (rec_bad l m A n c _ hn).mono ?_
  rintro e w1 ⟨rfl, hb1⟩
  have HB := Lib.hid ((((Below.refl _ w).alloc (Nat.le_refl _) _).alloc (by simp) _).trans (hb1.mono (by simp; omega)))
  clear hb1
  go_wp2
  go_ret
  exact ⟨rfl, HB.out⟩
set_option maxHeartbeats 1000000 in
theorem ver_go (h l : Nat) (root m : BitVec 64) (A B : Option Addr) (c c2 : Nat) (cs ps : List (BitVec 64)) (hh : leafB (h : Int) (l : Int) = true) (w : World) (hA : Ws w A 18 cs) (hB : Ws w B h ps) :
    Calls Try.prog 17 #[.agg #[.int .i64 (h : Int), .int .u64 (val root)], .int .u64 (val m), .agg #[.int .i64 (l : Int), .slice A 18 c, .slice B h c2]] w fun e w' => e = .returned (.int .i64 (cmpE (climbF l (recF l m cs) ps h) root)) ∧ Below w.heap.size w w' := by
  have HH := Lib.hid hh
  have hl := leaf_lt hh
  have hb16 := hgt_cases hl.1
  have hh4 : h ≤ 4 := by omega
  have hp := pow_le h hh4
  have hlt : l < 16 := by
    have h2 := hl.2.2
    rw [Int.toNat_natCast] at h2
    have h3 : l < 2 ^ h := by exact_mod_cast h2
    omega
  have HA := Lib.hid hA
  have HB := Lib.hid hB
  clear hh hA hB hl hb16
  go_enter Try.func17, Try.ntmps17
  go_wp2_with fail
  refine (hasLeaf_any h l _).mono ?_
  rintro e w' ⟨rfl, rfl⟩
  rw [HH.out]
  go_wp2_with fail
  have hb0 := ((Below.refl w.heap.size w).alloc (Nat.le_refl _) (.cells #[.int .i64 (h : Int), .int .u64 (val root)] 24)).alloc (by simp) (.cells #[.int .i64 (l : Int), .slice A 18 c, .slice B h c2] 32)
  have hk0 := (Cs.new w 24 [.int .i64 (h : Int), .int .u64 (val root)]).below ((Below.refl _ _).alloc (Nat.le_refl _) (.cells #[.int .i64 (l : Int), .slice A 18 c, .slice B h c2] 32)) (by simp)
  have hs0 := Cs.new (w.alloc (.cells #[.int .i64 (h : Int), .int .u64 (val root)] 24)) 32 [.int .i64 (l : Int), .slice A 18 c, .slice B h c2]
  rw [World.size_alloc] at hs0
  refine (rec_any (l : Int) m A c cs _ (HA.out.below hb0)).mono ?_
  rintro e w1 ⟨rfl, hb1⟩
  have HK := Lib.hid (hk0.below hb1 (by simp; omega))
  have HS := Lib.hid (hs0.below hb1 (by simp))
  have HB1 := Lib.hid (hb0.trans (hb1.mono (by simp; omega)))
  clear hk0 hs0 hb0 hb1
  have k1 := HK.out.cell 1
  have s0 := HS.out.cell 0
  have s2 := HS.out.cell 2
  simp only [List.getElem?_cons_succ, List.getElem?_cons_zero] at k1 s0 s2
  have hsz := HB1.out.size
  obtain ⟨x, hx⟩ : ∃ x, recF (l : Int) m cs = x := ⟨_, rfl⟩
  rw [hx]
  have HX := Lib.hid hx
  clear hx
  go_wp2
  have hcl := fun (W : World) (hW : Below w.heap.size w W) => climb_any l x B h c2 ps W (HB.out.below hW) hlt (by omega)
  have HCL := Lib.hid hcl
  clear hcl
  refine wp_region_held (S := fun W => Below w1.heap.size w1 W) (by kernel_rfl) ?_
  refine heldS_take (i := 0) (v := ?_) rfl rfl (by kernel_rfl) (by kernel_rfl) (by kernel_rfl) (fun _ _ _ h => h) (by rfl) ((Below.refl _ w1).drew) ?_ ?_
  rotate_left
  · intro W hW
    go_simp
    try with_reducible rfl
  simp only [Act.put, List.setIfInBounds_toArray, List.set_cons_zero, List.set_cons_succ]
  refine heldS_take (i := 1) (v := ?_) rfl rfl (by kernel_rfl) (by kernel_rfl) (by kernel_rfl) (fun _ _ _ h => h) (by rfl) ((Below.refl _ w1).drew) ?_ ?_
  rotate_left
  · intro W hW
    have e0 := (HS.out.below hW HS.out.lt).cell 0
    simp only [List.getElem?_cons_zero] at e0
    go_simp
    try with_reducible rfl
  simp only [Act.put, List.setIfInBounds_toArray, List.set_cons_zero, List.set_cons_succ]
  refine heldS_take (i := 2) (v := ?_) rfl rfl (by kernel_rfl) (by kernel_rfl) (by kernel_rfl) (fun _ _ _ h => h) (by rfl) ((Below.refl _ w1).drew) ?_ ?_
  rotate_left
  · intro W hW
    go_simp
    try with_reducible rfl
  simp only [Act.put, List.setIfInBounds_toArray, List.set_cons_zero, List.set_cons_succ]
  refine heldS_take (i := 3) (v := ?_) rfl rfl (by kernel_rfl) (by kernel_rfl) (by kernel_rfl) (fun _ _ _ h => h) (by rfl) ((Below.refl _ w1).drew) ?_ ?_
  rotate_left
  · intro W hW
    go_simp
    try with_reducible rfl
  simp only [Act.put, List.setIfInBounds_toArray, List.set_cons_zero, List.set_cons_succ]
  refine heldS_take (i := 4) (v := ?_) rfl rfl (by kernel_rfl) (by kernel_rfl) (by kernel_rfl) (fun _ _ _ h => h) (by rfl) ((Below.refl _ w1).drew) ?_ ?_
  rotate_left
  · intro W hW
    have e2 := (HS.out.below hW HS.out.lt).cell 2
    simp only [List.getElem?_cons_succ, List.getElem?_cons_zero] at e2
    go_simp
    try with_reducible rfl
  simp only [Act.put, List.setIfInBounds_toArray, List.set_cons_zero, List.set_cons_succ]
  refine heldS_take (i := 6) (v := ?_) rfl rfl (by kernel_rfl) (by kernel_rfl) (by kernel_rfl) (fun _ _ _ h => h) (by rfl) ((Below.refl _ w1).drew) ?_ ?_
  rotate_left
  · intro W hW
    go_simp
    try with_reducible rfl
  simp only [Act.put, List.setIfInBounds_toArray, List.set_cons_zero, List.set_cons_succ]
  refine heldS_take (i := 7) (v := ?_) rfl rfl (by kernel_rfl) (by kernel_rfl) (by kernel_rfl) (fun _ _ _ h => h) (by rfl) ((Below.refl _ w1).drew) ?_ ?_
  rotate_left
  · intro W hW
    have e1 := (HK.out.below hW HK.out.lt).cell 1
    simp only [List.getElem?_cons_succ, List.getElem?_cons_zero] at e1
    go_simp
    try with_reducible rfl
  simp only [Act.put, List.setIfInBounds_toArray, List.set_cons_zero, List.set_cons_succ]
  refine heldS_call (i := 5) (by kernel_rfl) rfl (fun K' hK => ?_)
  go_simp
  refine (HCL.out _ (HB1.out.drew)).mono ?_
  rintro e w2 ⟨rfl, hb⟩
  have hS : Below w1.heap.size w1 w2 := (Below.refl _ w1).drew.trans hb
  refine hK.out _ _ hS ?_
  clear hK K'
  have HB2 := Lib.hid (HB1.out.trans (hS.mono hsz))
  have HS2 := Lib.hid hS
  clear hb hS
  refine heldS_take (i := 8) (v := ?_) rfl rfl (by kernel_rfl) (by kernel_rfl) (by kernel_rfl) (fun _ _ _ h => h) (by rfl) HS2.out ?_ ?_
  rotate_left
  · intro W hW
    go_simp
    try with_reducible rfl
  simp only [Act.put, List.setIfInBounds_toArray, List.set_cons_zero, List.set_cons_succ]
  refine wpAnyH_done (by kernel_rfl) ?_ _
  obtain ⟨y, hy⟩ : ∃ y, climbF l x ps h = y := ⟨_, rfl⟩
  rw [hy]
  have HY := Lib.hid hy
  clear hy k1 s0 s2
  by_cases hyr : y = root
  · subst hyr
    go_wp2
    go_ret
    exact ⟨by rw [HX.out, HY.out]; simp [cmpE], HB2.out⟩
  · have hne : val y ≠ val root := fun e => hyr (val_inj e)
    go_wp2
    go_ret
    exact ⟨by rw [HX.out, HY.out]; simp [cmpE, hyr], HB2.out⟩
end Go.Proofs.Ythgahjihgoiklaa
