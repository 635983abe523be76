/- Keys as bytes, of both: what they answer. -/
import Derived.Test.YthgahjihgoiklaaTkT
namespace Go.Proofs.Ythgahjihgoiklaa
open Go.RowKit
set_option maxRecDepth 100000

def kN (h : Int) : Nat := if hgtB h = true then 9 else 0
def kB (h : Int) (r : BitVec 64) : List Int := if hgtB h = true then h :: wsBytes [r] else []
def kE (h : Int) : Int := if hgtB h = true then 0 else 9
theorem Bytes.nil (w : World) (A : Option Addr) : Bytes w A 0 [] := ⟨rfl, fun z hz => (by cases hz), fun i hi => absurd hi (by omega)⟩
theorem encK_no (h : Int) (r : BitVec 64) (w : World) (hh : hgtB h = false) :
    Calls Try.prog 19 #[.agg #[.int .i64 h, .int .u64 (val r)]] w fun e w' => e = .returned (.tuple #[.slice none 0 0, .int .i64 9]) ∧ Below w.heap.size w w' := by
  have HH := Lib.hid hh
  clear hh
  go_enter Try.func19, Try.ntmps19
  go_wp2_with fail
  refine (hgt_any _ _).mono ?_
  rintro e w' ⟨rfl, rfl⟩
  rw [HH.out]
  go_wp2
  go_ret2
  exact ⟨rfl, (Below.refl _ _).alloc (Nat.le_refl _) _⟩
theorem encKR_no (h : Int) (r : BitVec 64) (w : World) (hh : hgtB h = false) :
    Calls Try.prog 20 #[.agg #[.int .i64 h, .int .u64 (val r)]] w fun e w' => e = .returned (.tuple #[.slice none 0 0, .int .i64 9]) ∧ Below w.heap.size w w' := by
  have HH := Lib.hid hh
  clear hh
  go_enter Try.func20, Try.ntmps20
  go_wp2_with fail
  refine (hgtR_any _ _).mono ?_
  rintro e w' ⟨rfl, rfl⟩
  rw [HH.out]
  go_wp2
  go_ret2
  exact ⟨rfl, (Below.refl _ _).alloc (Nat.le_refl _) _⟩
theorem encK_all (h : Int) (r : BitVec 64) (w : World) :
    Calls Try.prog 19 #[.agg #[.int .i64 h, .int .u64 (val r)]] w fun e w' => ∃ A c, e = .returned (.tuple #[.slice A (kN h) c, .int .i64 (kE h)]) ∧ Bytes w' A (kN h) (kB h r) ∧ Below w.heap.size w w' := by
  unfold kN kB kE
  cases hh : hgtB h with
  | true => exact encK_ok h r w hh
  | false => exact (encK_no h r w hh).mono fun e w' ⟨he, hb⟩ => ⟨none, 0, he, Bytes.nil _ _, hb⟩
theorem encKR_all (h : Int) (r : BitVec 64) (w : World) :
    Calls Try.prog 20 #[.agg #[.int .i64 h, .int .u64 (val r)]] w fun e w' => ∃ A c, e = .returned (.tuple #[.slice A (kN h) c, .int .i64 (kE h)]) ∧ Bytes w' A (kN h) (kB h r) ∧ Below w.heap.size w w' := by
  unfold kN kB kE
  cases hh : hgtB h with
  | true => exact encKR_ok h r w hh
  | false => exact (encKR_no h r w hh).mono fun e w' ⟨he, hb⟩ => ⟨none, 0, he, Bytes.nil _ _, hb⟩
/-- whether bytes are a key -/
def dkB (zs : List Int) : Bool := decide (zs.length = 9) && hgtB (zs.getD 0 0)
def dkH (zs : List Int) : Int := if dkB zs = true then zs.getD 0 0 else 0
def dkR (zs : List Int) : BitVec 64 := if dkB zs = true then rdF (zs.drop 1) 8 else 0#64
def dkE (zs : List Int) : Int := if dkB zs = true then 0 else 2
def DecP (zs : List Int) (w : World) (e : Ending) (w' : World) : Prop := e = .returned (.tuple #[.agg #[.int .i64 (dkH zs), .int .u64 (val (dkR zs))], .int .i64 (dkE zs)]) ∧ Below w.heap.size w w'
theorem decP_no {zs : List Int} {w w' : World} {e : Ending} (hz : dkB zs = false) (h : e = .returned (.tuple #[.agg #[.int .i64 0, .int .u64 0], .int .i64 2]) ∧ Below w.heap.size w w') : DecP zs w e w' := by
  unfold DecP dkH dkR dkE
  rw [hz]
  exact h
theorem decP_ok {zs : List Int} {w w' : World} {e : Ending} (hz : dkB zs = true) (h : e = .returned (.tuple #[.agg #[.int .i64 (zs.getD 0 0), .int .u64 (val (rdF (zs.drop 1) 8))], .int .i64 0]) ∧ Below w.heap.size w w') : DecP zs w e w' := by
  unfold DecP dkH dkR dkE
  rw [hz]
  exact h
theorem decK_len (A : Option Addr) (n c : Nat) (w : World) (hn : n ≠ 9) :
    Calls Try.prog 21 #[.slice A n c] w fun e w' => e = .returned (.tuple #[.agg #[.int .i64 0, .int .u64 0], .int .i64 2]) ∧ Below w.heap.size w w' := by
  have hnI : ¬ (n : Int) = 9 := by omega
  go_enter Try.func21, Try.ntmps21
  go_wp2
  exact bodyPost_ret (v := .tuple #[.agg #[.int .i64 0, .int .u64 0], .int .i64 2]) (by simp [results, Try.results21, go_sem]) rfl ⟨rfl, (Below.refl _ _).alloc (Nat.le_refl _) _⟩
theorem decK_hgt (a : Addr) (c : Nat) (z : Int) (w : World) (hc : w.cell? a = some (.int .u8 z)) (hz : 0 ≤ z ∧ z ≤ 255) (hh : hgtB z = false) :
    Calls Try.prog 21 #[.slice (some a) 9 c] w fun e w' => e = .returned (.tuple #[.agg #[.int .i64 0, .int .u64 0], .int .i64 2]) ∧ Below w.heap.size w w' := by
  have HH := Lib.hid hh
  have hwz : wrap64 z = z := by unfold wrap64; omega
  have h0 := (((Below.refl w.heap.size w).alloc (Nat.le_refl _) (.cells #[.int .i64 0, .int .u64 0] 24)).cell (cell_in hc)).trans hc
  clear hh hc hz
  go_enter Try.func21, Try.ntmps21
  go_wp2_with fail
  refine (hgt_any _ _).mono ?_
  rintro e w' ⟨rfl, rfl⟩
  rw [HH.out]
  go_wp2
  exact bodyPost_ret (v := .tuple #[.agg #[.int .i64 0, .int .u64 0], .int .i64 2]) (by simp [results, Try.results21, go_sem]) rfl ⟨rfl, (Below.refl _ _).alloc (Nat.le_refl _) _⟩
set_option maxHeartbeats 1000000 in
theorem decK_ok (a : Addr) (c : Nat) (z : Int) (zs : List Int) (w : World) (hc : w.cell? a = some (.int .u8 z)) (hz : 0 ≤ z ∧ z ≤ 255) (hh : hgtB z = true) (hB : Bytes w (some (a.add 1)) 8 zs) (hc9 : 9 ≤ c) :
    Calls Try.prog 21 #[.slice (some a) 9 c] w fun e w' => e = .returned (.tuple #[.agg #[.int .i64 z, .int .u64 (val (rdF zs 8))], .int .i64 0]) ∧ Below w.heap.size w w' := by
  have HH := Lib.hid hh
  have hwz : wrap64 z = z := by unfold wrap64; omega
  have hiz : IntKind.i64.wrap z = z := by rw [IntKind.wrap_i64]; omega
  have HB := Lib.hid hB
  have HC := Lib.hid hc
  have hb0 := (Below.refl w.heap.size w).alloc (Nat.le_refl _) (.cells #[.int .i64 0, .int .u64 0] 24)
  have h0 := (hb0.cell (cell_in hc)).trans hc
  have HB0 := Lib.hid hb0
  have hc1 : ¬ c = 1 := by omega
  have hc2 : ¬ c - 1 = 0 := by omega
  have hc3 : ¬ (c : Int) < 9 := by omega
  have hcc := Cs.new w 24 [.int .i64 0, .int .u64 0]
  have f0 := hcc.free 0
  have f1 := hcc.free 1
  have r0 := hcc.cell 0
  have r1 := hcc.cell 1
  simp only [List.getElem?_cons_succ, List.getElem?_cons_zero] at r0 r1
  clear hh hc hz hB hb0 hcc
  go_enter Try.func21, Try.ntmps21
  go_wp2_with fail
  refine (hgt_any _ _).mono ?_
  rintro e w' ⟨rfl, rfl⟩
  rw [HH.out]
  go_wp2_with fail
  refine wp_region_held (S := fun W => Below w.heap.size w W) (by kernel_rfl) ?_
  refine heldS_take (i := 0) (v := ?_) rfl rfl (by kernel_rfl) (by kernel_rfl) (by kernel_rfl) (fun _ _ _ h => h) (by rfl) HB0.out.drew ?_ ?_
  rotate_left
  · intro W hW
    go_simp
    try with_reducible rfl
  simp only [Act.put, List.setIfInBounds_toArray, List.set_cons_zero, List.set_cons_succ]
  refine heldS_take (i := 1) (v := ?_) rfl rfl (by kernel_rfl) (by kernel_rfl) (by kernel_rfl) (fun _ _ _ h => h) (by rfl) HB0.out.drew ?_ ?_
  rotate_left
  · intro W hW
    go_simp
    try with_reducible rfl
  simp only [Act.put, List.setIfInBounds_toArray, List.set_cons_zero, List.set_cons_succ]
  refine heldS_take (i := 2) (v := ?_) rfl rfl (by kernel_rfl) (by kernel_rfl) (by kernel_rfl) (fun _ _ _ h => h) (by rfl) HB0.out.drew ?_ ?_
  rotate_left
  · intro W hW
    have e0 := (hW.cell (cell_in HC.out)).trans HC.out
    go_simp
    try with_reducible rfl
  simp only [Act.put, List.setIfInBounds_toArray, List.set_cons_zero, List.set_cons_succ]
  refine heldS_take (i := 3) (v := ?_) rfl rfl (by kernel_rfl) (by kernel_rfl) (by kernel_rfl) (fun _ _ _ h => h) (by rfl) HB0.out.drew ?_ ?_
  rotate_left
  · intro W hW
    go_simp
    try with_reducible rfl
  simp only [Act.put, List.setIfInBounds_toArray, List.set_cons_zero, List.set_cons_succ]
  refine heldS_take (i := 4) (v := ?_) rfl rfl (by kernel_rfl) (by kernel_rfl) (by kernel_rfl) (fun _ _ _ h => h) (by rfl) HB0.out.drew ?_ ?_
  rotate_left
  · intro W hW
    go_simp
    try with_reducible rfl
  simp only [Act.put, List.setIfInBounds_toArray, List.set_cons_zero, List.set_cons_succ]
  refine heldS_take (i := 5) (v := ?_) rfl rfl (by kernel_rfl) (by kernel_rfl) (by kernel_rfl) (fun _ _ _ h => h) (by rfl) HB0.out.drew ?_ ?_
  rotate_left
  · intro W hW
    go_simp
    try with_reducible rfl
  simp only [Act.put, List.setIfInBounds_toArray, List.set_cons_zero, List.set_cons_succ]
  refine heldS_call (i := 6) (by kernel_rfl) rfl (fun K' hK => ?_)
  go_simp
  refine (word_any _ 8 _ zs _ (HB.out.below HB0.out.drew) (by omega)).mono ?_
  rintro e w' ⟨rfl, rfl⟩
  refine hK.out _ _ HB0.out.drew ?_
  clear hK K'
  refine heldS_take (i := 7) (v := ?_) rfl rfl (by kernel_rfl) (by kernel_rfl) (by kernel_rfl) (fun _ _ _ h => h) (by rfl) HB0.out.drew ?_ ?_
  rotate_left
  · intro W hW
    go_simp
    try with_reducible rfl
  simp only [Act.put, List.setIfInBounds_toArray, List.set_cons_zero, List.set_cons_succ]
  refine heldS_call (i := 8) (by kernel_rfl) rfl (fun K' hK => ?_)
  go_simp
  refine hK.out _ _ (((Below.refl w.heap.size w).alloc (Nat.le_refl _) _).drew) ?_
  clear hK K'
  refine heldS_call (i := 9) (by kernel_rfl) rfl (fun K' hK => ?_)
  go_simp
  refine hK.out _ _ (((Below.refl w.heap.size w).alloc (Nat.le_refl _) _).drew) ?_
  clear hK K'
  refine wpAnyH_done (by kernel_rfl) ?_ _
  go_wp2
  exact bodyPost_ret (v := .tuple #[.agg #[.int .i64 z, .int .u64 (val (rdF zs 8))], .int .i64 0]) (by simp [results, Try.results21, go_sem]) rfl ⟨rfl, ((Below.refl w.heap.size w).alloc (Nat.le_refl _) _).drew⟩
theorem decK_all (A : Option Addr) (n c : Nat) (zs : List Int) (w : World) (hB : Bytes w A n zs) (hc : n ≤ c) :
    Calls Try.prog 21 #[.slice A n c] w (DecP zs w) := by
  by_cases hn : n = 9
  · subst hn
    obtain ⟨a, rfl, h0⟩ := hB.at_ 0 (by decide)
    have hz := hB.byte 0 (by decide)
    have ha : a.add 0 = a := by unfold Addr.add; rfl
    rw [ha] at h0
    cases hh : hgtB (zs.getD 0 0) with
    | false => exact (decK_hgt a c _ w h0 hz hh).mono fun e w' h => decP_no (by unfold dkB; rw [hh, Bool.and_false]) h
    | true =>
      have hd := hB.drop 1 (by decide) hc
      rw [if_neg (by omega)] at hd
      exact (decK_ok a c _ _ w h0 hz hh hd hc).mono fun e w' h => decP_ok (by unfold dkB; rw [hh, hB.len]; rfl) h
  · exact (decK_len A n c w hn).mono fun e w' h => decP_no (by
      unfold dkB
      have : zs.length ≠ 9 := by rw [hB.len]; exact hn
      simp [this]) h
theorem decKR_len (A : Option Addr) (n c : Nat) (w : World) (hn : n ≠ 9) :
    Calls Try.prog 22 #[.slice A n c] w fun e w' => e = .returned (.tuple #[.agg #[.int .i64 0, .int .u64 0], .int .i64 2]) ∧ Below w.heap.size w w' := by
  have hnI : ¬ (n : Int) = 9 := by omega
  go_enter Try.func22, Try.ntmps22
  go_wp2
  exact bodyPost_ret (v := .tuple #[.agg #[.int .i64 0, .int .u64 0], .int .i64 2]) (by simp [results, Try.results22, go_sem]) rfl ⟨rfl, (Below.refl _ _).alloc (Nat.le_refl _) _⟩
theorem decKR_hgt (a : Addr) (c : Nat) (z : Int) (w : World) (hc : w.cell? a = some (.int .u8 z)) (hz : 0 ≤ z ∧ z ≤ 255) (hh : hgtB z = false) :
    Calls Try.prog 22 #[.slice (some a) 9 c] w fun e w' => e = .returned (.tuple #[.agg #[.int .i64 0, .int .u64 0], .int .i64 2]) ∧ Below w.heap.size w w' := by
  have HH := Lib.hid hh
  have hwz : wrap64 z = z := by unfold wrap64; omega
  have h0 := (((Below.refl w.heap.size w).alloc (Nat.le_refl _) (.cells #[.int .i64 0, .int .u64 0] 24)).cell (cell_in hc)).trans hc
  clear hh hc hz
  go_enter Try.func22, Try.ntmps22
  go_wp2_with fail
  refine (hgtR_any _ _).mono ?_
  rintro e w' ⟨rfl, rfl⟩
  rw [HH.out]
  go_wp2
  exact bodyPost_ret (v := .tuple #[.agg #[.int .i64 0, .int .u64 0], .int .i64 2]) (by simp [results, Try.results22, go_sem]) rfl ⟨rfl, (Below.refl _ _).alloc (Nat.le_refl _) _⟩
set_option maxHeartbeats 1000000 in
theorem decKR_ok (a : Addr) (c : Nat) (z : Int) (zs : List Int) (w : World) (hc : w.cell? a = some (.int .u8 z)) (hz : 0 ≤ z ∧ z ≤ 255) (hh : hgtB z = true) (hB : Bytes w (some (a.add 1)) 8 zs) (hc9 : 9 ≤ c) :
    Calls Try.prog 22 #[.slice (some a) 9 c] w fun e w' => e = .returned (.tuple #[.agg #[.int .i64 z, .int .u64 (val (rdF zs 8))], .int .i64 0]) ∧ Below w.heap.size w w' := by
  have HH := Lib.hid hh
  have hwz : wrap64 z = z := by unfold wrap64; omega
  have hiz : IntKind.i64.wrap z = z := by rw [IntKind.wrap_i64]; omega
  have HB := Lib.hid hB
  have HC := Lib.hid hc
  have hb0 := (Below.refl w.heap.size w).alloc (Nat.le_refl _) (.cells #[.int .i64 0, .int .u64 0] 24)
  have h0 := (hb0.cell (cell_in hc)).trans hc
  have HB0 := Lib.hid hb0
  have hc1 : ¬ c = 1 := by omega
  have hc2 : ¬ c - 1 = 0 := by omega
  have hc3 : ¬ (c : Int) < 9 := by omega
  have hcc := Cs.new w 24 [.int .i64 0, .int .u64 0]
  have f0 := hcc.free 0
  have f1 := hcc.free 1
  have r0 := hcc.cell 0
  have r1 := hcc.cell 1
  simp only [List.getElem?_cons_succ, List.getElem?_cons_zero] at r0 r1
  clear hh hc hz hB hb0 hcc
  go_enter Try.func22, Try.ntmps22
  go_wp2_with fail
  refine (hgtR_any _ _).mono ?_
  rintro e w' ⟨rfl, rfl⟩
  rw [HH.out]
  go_wp2_with fail
  refine wp_region_held (S := fun W => Below w.heap.size w W) (by kernel_rfl) ?_
  refine heldS_take (i := 0) (v := ?_) rfl rfl (by kernel_rfl) (by kernel_rfl) (by kernel_rfl) (fun _ _ _ h => h) (by rfl) HB0.out.drew ?_ ?_
  rotate_left
  · intro W hW
    go_simp
    try with_reducible rfl
  simp only [Act.put, List.setIfInBounds_toArray, List.set_cons_zero, List.set_cons_succ]
  refine heldS_take (i := 1) (v := ?_) rfl rfl (by kernel_rfl) (by kernel_rfl) (by kernel_rfl) (fun _ _ _ h => h) (by rfl) HB0.out.drew ?_ ?_
  rotate_left
  · intro W hW
    go_simp
    try with_reducible rfl
  simp only [Act.put, List.setIfInBounds_toArray, List.set_cons_zero, List.set_cons_succ]
  refine heldS_take (i := 2) (v := ?_) rfl rfl (by kernel_rfl) (by kernel_rfl) (by kernel_rfl) (fun _ _ _ h => h) (by rfl) HB0.out.drew ?_ ?_
  rotate_left
  · intro W hW
    have e0 := (hW.cell (cell_in HC.out)).trans HC.out
    go_simp
    try with_reducible rfl
  simp only [Act.put, List.setIfInBounds_toArray, List.set_cons_zero, List.set_cons_succ]
  refine heldS_take (i := 3) (v := ?_) rfl rfl (by kernel_rfl) (by kernel_rfl) (by kernel_rfl) (fun _ _ _ h => h) (by rfl) HB0.out.drew ?_ ?_
  rotate_left
  · intro W hW
    go_simp
    try with_reducible rfl
  simp only [Act.put, List.setIfInBounds_toArray, List.set_cons_zero, List.set_cons_succ]
  refine heldS_take (i := 4) (v := ?_) rfl rfl (by kernel_rfl) (by kernel_rfl) (by kernel_rfl) (fun _ _ _ h => h) (by rfl) HB0.out.drew ?_ ?_
  rotate_left
  · intro W hW
    go_simp
    try with_reducible rfl
  simp only [Act.put, List.setIfInBounds_toArray, List.set_cons_zero, List.set_cons_succ]
  refine heldS_take (i := 5) (v := ?_) rfl rfl (by kernel_rfl) (by kernel_rfl) (by kernel_rfl) (fun _ _ _ h => h) (by rfl) HB0.out.drew ?_ ?_
  rotate_left
  · intro W hW
    go_simp
    try with_reducible rfl
  simp only [Act.put, List.setIfInBounds_toArray, List.set_cons_zero, List.set_cons_succ]
  refine heldS_call (i := 6) (by kernel_rfl) rfl (fun K' hK => ?_)
  go_simp
  refine (wordR_any _ 8 _ zs _ (HB.out.below HB0.out.drew) rfl).mono ?_
  rintro e w' ⟨rfl, rfl⟩
  refine hK.out _ _ HB0.out.drew ?_
  clear hK K'
  refine heldS_take (i := 7) (v := ?_) rfl rfl (by kernel_rfl) (by kernel_rfl) (by kernel_rfl) (fun _ _ _ h => h) (by rfl) HB0.out.drew ?_ ?_
  rotate_left
  · intro W hW
    go_simp
    try with_reducible rfl
  simp only [Act.put, List.setIfInBounds_toArray, List.set_cons_zero, List.set_cons_succ]
  refine heldS_call (i := 8) (by kernel_rfl) rfl (fun K' hK => ?_)
  go_simp
  refine hK.out _ _ (((Below.refl w.heap.size w).alloc (Nat.le_refl _) _).drew) ?_
  clear hK K'
  refine heldS_call (i := 9) (by kernel_rfl) rfl (fun K' hK => ?_)
  go_simp
  refine hK.out _ _ (((Below.refl w.heap.size w).alloc (Nat.le_refl _) _).drew) ?_
  clear hK K'
  refine wpAnyH_done (by kernel_rfl) ?_ _
  go_wp2
  exact bodyPost_ret (v := .tuple #[.agg #[.int .i64 z, .int .u64 (val (rdF zs 8))], .int .i64 0]) (by simp [results, Try.results22, go_sem]) rfl ⟨rfl, ((Below.refl w.heap.size w).alloc (Nat.le_refl _) _).drew⟩
theorem decKR_all (A : Option Addr) (n c : Nat) (zs : List Int) (w : World) (hB : Bytes w A n zs) (hc : n ≤ c) :
    Calls Try.prog 22 #[.slice A n c] w (DecP zs w) := by
  by_cases hn : n = 9
  · subst hn
    obtain ⟨a, rfl, h0⟩ := hB.at_ 0 (by decide)
    have hz := hB.byte 0 (by decide)
    have ha : a.add 0 = a := by unfold Addr.add; rfl
    rw [ha] at h0
    cases hh : hgtB (zs.getD 0 0) with
    | false => exact (decKR_hgt a c _ w h0 hz hh).mono fun e w' h => decP_no (by unfold dkB; rw [hh, Bool.and_false]) h
    | true =>
      have hd := hB.drop 1 (by decide) hc
      rw [if_neg (by omega)] at hd
      exact (decKR_ok a c _ _ w h0 hz hh hd hc).mono fun e w' h => decP_ok (by unfold dkB; rw [hh, hB.len]; rfl) h
  · exact (decKR_len A n c w hn).mono fun e w' h => decP_no (by
      unfold dkB
      have : zs.length ≠ 9 := by rw [hB.len]; exact hn
      simp [this]) h
end Go.Proofs.Ythgahjihgoiklaa
