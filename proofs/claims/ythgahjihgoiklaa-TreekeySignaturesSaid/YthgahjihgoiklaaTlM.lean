/- DecodeSignature and EncodeSignature of both, what is encoded is read back, decodes, codes, the law TreekeySignatures. -/
import Derived.Test.YthgahjihgoiklaaTkY
import Derived.Test.YthgahjihgoiklaaTkO
import Derived.Test.YthgahjihgoiklaaTkR
namespace Go.Proofs.Ythgahjihgoiklaa
open Go.RowKit
set_option maxRecDepth 100000

/-- whether bytes are a signature, and which -/
def dsB (zs : List Int) : Bool := decide (2 ≤ zs.length) && leafB (zs.getD 1 0) (zs.getD 0 0) && decide (zs.length = 146 + 8 * (zs.getD 1 0).toNat)
def dsL (zs : List Int) : Int := if dsB zs = true then zs.getD 0 0 else 0
def dsE (zs : List Int) : Int := if dsB zs = true then 0 else 2
def dsN (zs : List Int) : Nat := if dsB zs = true then 18 else 0
def dsM (zs : List Int) : Nat := if dsB zs = true then (zs.getD 1 0).toNat else 0
def dsC (zs : List Int) : List (BitVec 64) := if dsB zs = true then wordsAt zs 2 18 else []
def dsP (zs : List Int) : List (BitVec 64) := if dsB zs = true then wordsAt zs 146 (zs.getD 1 0).toNat else []
def DecSP (zs : List Int) (w : World) (e : Ending) (w' : World) : Prop := ∃ A c B c2, e = .returned (.tuple #[.agg #[.int .i64 (dsL zs), .slice A (dsN zs) c, .slice B (dsM zs) c2], .int .i64 (dsE zs)]) ∧
  Ws w' A (dsN zs) (dsC zs) ∧ Ws w' B (dsM zs) (dsP zs) ∧ Below w.heap.size w w'
theorem decSP_no {zs : List Int} {w w' : World} {e : Ending} (hz : dsB zs = false) (h : e = .returned (.tuple #[.agg #[.int .i64 0, .slice none 0 0, .slice none 0 0], .int .i64 2]) ∧ Below w.heap.size w w') : DecSP zs w e w' := by
  unfold DecSP dsL dsE dsN dsM dsC dsP
  simp only [hz, Bool.false_eq_true, if_false]
  exact ⟨none, 0, none, 0, h.1, Ws.nil _ _, Ws.nil _ _, h.2⟩
theorem dsB_split {zs : List Int} (h : dsB zs = true) : 2 ≤ zs.length ∧ leafB (zs.getD 1 0) (zs.getD 0 0) = true ∧ zs.length = 146 + 8 * (zs.getD 1 0).toNat := by
  unfold dsB at h
  simp only [Bool.and_eq_true, decide_eq_true_eq] at h
  exact ⟨h.1.1, h.1.2, h.2⟩
theorem dec_all (A : Option Addr) (n c : Nat) (zs : List Int) (w : World) (hB : Bytes w A n zs) (hc : n ≤ c) :
    Calls Try.prog 43 #[.slice A n c] w (DecSP zs w) := by
  have hl := hB.len
  by_cases hn : n < 2
  · exact (dec_len A n c w hn).mono fun e w' h => decSP_no (by unfold dsB; simp; omega) h
  · obtain ⟨a, rfl, h0⟩ := hB.at_ 0 (by omega)
    obtain ⟨a', e', h1⟩ := hB.at_ 1 (by omega)
    cases e'
    have ha : a.add 0 = a := by unfold Addr.add; rfl
    rw [ha] at h0
    have z0 := hB.byte 0 (by omega)
    have z1 := hB.byte 1 (by omega)
    cases hh : leafB (zs.getD 1 0) (zs.getD 0 0) with
    | false => exact (dec_leaf a n c _ _ w (by omega) hc h0 h1 z0 z1 hh).mono fun e w' h => decSP_no (by unfold dsB; rw [hh]; simp) h
    | true =>
      obtain ⟨H, hH⟩ := Int.eq_ofNat_of_zero_le z1.1
      by_cases hq : n - 2 = 144 + 8 * H
      · have hd := hB.drop (cap := c) 2 (by omega) hc
        rw [if_neg (by omega)] at hd
        have hds : dsB zs = true := by unfold dsB; rw [hh, hH]; simp; omega
        rw [hH] at h1 z1 hh
        refine (dec_ok a n c _ H w (by omega) hc h0 h1 z0 z1 hh hq (zs.drop 2) hd).mono ?_
        rintro e w' ⟨A, c, B, c2, he, hA, hP, hb⟩
        rw [rdWs_take _ _ _ (by omega), rdWs_drop] at hA
        rw [List.drop_drop, rdWs_drop] at hP
        unfold DecSP dsL dsE dsN dsM dsC dsP
        simp only [hds, if_true, hH, Int.toNat_natCast]
        exact ⟨A, c, B, c2, he, hA, hP, hb⟩
      · have hds : dsB zs = false := by unfold dsB; rw [hh, hH]; simp; omega
        rw [hH] at h1 z1 hh
        exact (dec_size a n c _ H w (by omega) hc h0 h1 z0 z1 hh hq).mono fun e w' h => decSP_no hds h

section
variable {P : Program} {md : Region.Mode} {ops : Array Oper} {Q : Exit → Act → World → Prop} {fuel : Nat} {listed : Array Bool} {a : Act} {w : World} {S : World → Prop}
/-- one whose guard bars it is struck -/
theorem heldS_skip {i d : Nat} {oi : Oper} (hi : ops[i]? = some oi) (hd : oi.dst = some d) (hs : Region.noSelect ops = true) (hf : Region.free md ops listed i = true) (hr : (Region.ready md ops listed).contains i = true)
    (hQ : ∀ c a w, Q (.panic c) (a.put (some d) undef) w → Q (.panic c) a w) (hw : Region.wanted oi (yielded ops a.tmps) = false) (hS : S w)
    (h : wpAnyH P md ops Q S fuel (listed.setIfInBounds i true) (a.put (some d) undef) w) : wpAnyH P md ops Q S (fuel + 1) listed a w :=
  wpAnyH_take hi hs hf hr (by rw [hd]; exact hQ) (Or.inr ⟨hw, rfl⟩) hS (by rw [hd]; exact h)
end
theorem sz_small (H : Nat) (h : H ≤ 4) : wrap64 (18 + (H : Int)) = 18 + (H : Int) ∧ wrap64 (8 * (18 + (H : Int))) = 8 * (18 + (H : Int)) ∧ wrap64 (2 + 8 * (18 + (H : Int))) = 2 + 8 * (18 + (H : Int)) ∧ IntKind.u64.wrap (H : Int) = (H : Int) := by
  rcases (by omega : H = 0 ∨ H = 1 ∨ H = 2 ∨ H = 3 ∨ H = 4) with rfl | rfl | rfl | rfl | rfl <;> (rw [IntKind.wrap_u64]; unfold wrap64; decide)
theorem wrap_i64_64 (z : Int) : IntKind.i64.wrap z = wrap64 z := by rw [IntKind.wrap_i64]; unfold wrap64; rfl
set_option maxHeartbeats 4000000 in
theorem decR_len (A : Option Addr) (n c : Nat) (w : World) (hn : n < 2) :
    Calls Try.prog 44 #[.slice A n c] w fun e w' => e = .returned (.tuple #[.agg #[.int .i64 0, .slice none 0 0, .slice none 0 0], .int .i64 2]) ∧ Below w.heap.size w w' := by
  have hd2 : decide ((n : Int) < 2) = true := by simp; omega
  have HB0 := Lib.hid ((Below.refl w.heap.size w).alloc (Nat.le_refl _) (.cells #[.int .i64 0, .slice none 0 0, .slice none 0 0] 32))
  go_enter Try.func44, Try.ntmps44
  go_wp2_with fail
  refine wp_region_held (S := fun W => Below w.heap.size w W) (by kernel_rfl) ?_
  refine heldS_take (i := 0) (v := ?_) rfl rfl (by kernel_rfl) (by kernel_rfl) (by kernel_rfl) (fun _ _ _ h => h) (by rfl) HB0.out.drew ?_ ?_
  rotate_left
  · intro W' hW'
    go_simp
    try with_reducible rfl
  simp only [Act.put, List.setIfInBounds_toArray, List.set_cons_zero, List.set_cons_succ]
  refine heldS_take (i := 1) (v := ?_) rfl rfl (by kernel_rfl) (by kernel_rfl) (by kernel_rfl) (fun _ _ _ h => h) (by rfl) HB0.out.drew ?_ ?_
  rotate_left
  · intro W' hW'
    go_simp
    try with_reducible rfl
  simp only [Act.put, List.setIfInBounds_toArray, List.set_cons_zero, List.set_cons_succ]
  refine heldS_take (i := 2) (v := ?_) rfl rfl (by kernel_rfl) (by kernel_rfl) (by kernel_rfl) (fun _ _ _ h => h) (by rfl) HB0.out.drew ?_ ?_
  rotate_left
  · intro W' hW'
    go_simp
    try with_reducible rfl
  simp only [Act.put, List.setIfInBounds_toArray, List.set_cons_zero, List.set_cons_succ]
  refine heldS_take (i := 3) (v := ?_) rfl rfl (by kernel_rfl) (by kernel_rfl) (by kernel_rfl) (fun _ _ _ h => h) (by rfl) HB0.out.drew ?_ ?_
  rotate_left
  · intro W' hW'
    go_simp
    try with_reducible rfl
  simp only [Act.put, List.setIfInBounds_toArray, List.set_cons_zero, List.set_cons_succ]
  refine heldS_skip (i := 4) rfl rfl (by kernel_rfl) (by kernel_rfl) (by kernel_rfl) (fun _ _ _ h => h) (by rfl) HB0.out.drew ?_
  simp only [Act.put, List.setIfInBounds_toArray, List.set_cons_zero, List.set_cons_succ]
  refine heldS_skip (i := 5) rfl rfl (by kernel_rfl) (by kernel_rfl) (by kernel_rfl) (fun _ _ _ h => h) (by rfl) HB0.out.drew ?_
  simp only [Act.put, List.setIfInBounds_toArray, List.set_cons_zero, List.set_cons_succ]
  refine heldS_skip (i := 6) rfl rfl (by kernel_rfl) (by kernel_rfl) (by kernel_rfl) (fun _ _ _ h => h) (by rfl) HB0.out.drew ?_
  simp only [Act.put, List.setIfInBounds_toArray, List.set_cons_zero, List.set_cons_succ]
  refine heldS_skip (i := 7) rfl rfl (by kernel_rfl) (by kernel_rfl) (by kernel_rfl) (fun _ _ _ h => h) (by rfl) HB0.out.drew ?_
  simp only [Act.put, List.setIfInBounds_toArray, List.set_cons_zero, List.set_cons_succ]
  refine heldS_skip (i := 8) rfl rfl (by kernel_rfl) (by kernel_rfl) (by kernel_rfl) (fun _ _ _ h => h) (by rfl) HB0.out.drew ?_
  simp only [Act.put, List.setIfInBounds_toArray, List.set_cons_zero, List.set_cons_succ]
  refine heldS_take (i := 9) (v := ?_) rfl rfl (by kernel_rfl) (by kernel_rfl) (by kernel_rfl) (fun _ _ _ h => h) (by rfl) HB0.out.drew ?_ ?_
  rotate_left
  · intro W' hW'
    go_simp
    try with_reducible rfl
  simp only [Act.put, List.setIfInBounds_toArray, List.set_cons_zero, List.set_cons_succ]
  refine heldS_take (i := 10) (v := ?_) rfl rfl (by kernel_rfl) (by kernel_rfl) (by kernel_rfl) (fun _ _ _ h => h) (by rfl) HB0.out.drew ?_ ?_
  rotate_left
  · intro W' hW'
    go_simp
    try with_reducible rfl
  simp only [Act.put, List.setIfInBounds_toArray, List.set_cons_zero, List.set_cons_succ]
  refine heldS_skip (i := 11) rfl rfl (by kernel_rfl) (by kernel_rfl) (by kernel_rfl) (fun _ _ _ h => h) (by rfl) HB0.out.drew ?_
  simp only [Act.put, List.setIfInBounds_toArray, List.set_cons_zero, List.set_cons_succ]
  refine heldS_skip (i := 12) rfl rfl (by kernel_rfl) (by kernel_rfl) (by kernel_rfl) (fun _ _ _ h => h) (by rfl) HB0.out.drew ?_
  simp only [Act.put, List.setIfInBounds_toArray, List.set_cons_zero, List.set_cons_succ]
  refine heldS_skip (i := 13) rfl rfl (by kernel_rfl) (by kernel_rfl) (by kernel_rfl) (fun _ _ _ h => h) (by rfl) HB0.out.drew ?_
  simp only [Act.put, List.setIfInBounds_toArray, List.set_cons_zero, List.set_cons_succ]
  refine heldS_skip (i := 14) rfl rfl (by kernel_rfl) (by kernel_rfl) (by kernel_rfl) (fun _ _ _ h => h) (by rfl) HB0.out.drew ?_
  simp only [Act.put, List.setIfInBounds_toArray, List.set_cons_zero, List.set_cons_succ]
  refine heldS_skip (i := 15) rfl rfl (by kernel_rfl) (by kernel_rfl) (by kernel_rfl) (fun _ _ _ h => h) (by rfl) HB0.out.drew ?_
  simp only [Act.put, List.setIfInBounds_toArray, List.set_cons_zero, List.set_cons_succ]
  refine heldS_skip (i := 16) rfl rfl (by kernel_rfl) (by kernel_rfl) (by kernel_rfl) (fun _ _ _ h => h) (by rfl) HB0.out.drew ?_
  simp only [Act.put, List.setIfInBounds_toArray, List.set_cons_zero, List.set_cons_succ]
  refine heldS_skip (i := 17) rfl rfl (by kernel_rfl) (by kernel_rfl) (by kernel_rfl) (fun _ _ _ h => h) (by rfl) HB0.out.drew ?_
  simp only [Act.put, List.setIfInBounds_toArray, List.set_cons_zero, List.set_cons_succ]
  refine heldS_skip (i := 18) rfl rfl (by kernel_rfl) (by kernel_rfl) (by kernel_rfl) (fun _ _ _ h => h) (by rfl) HB0.out.drew ?_
  simp only [Act.put, List.setIfInBounds_toArray, List.set_cons_zero, List.set_cons_succ]
  refine heldS_skip (i := 19) rfl rfl (by kernel_rfl) (by kernel_rfl) (by kernel_rfl) (fun _ _ _ h => h) (by rfl) HB0.out.drew ?_
  simp only [Act.put, List.setIfInBounds_toArray, List.set_cons_zero, List.set_cons_succ]
  refine heldS_skip (i := 20) rfl rfl (by kernel_rfl) (by kernel_rfl) (by kernel_rfl) (fun _ _ _ h => h) (by rfl) HB0.out.drew ?_
  simp only [Act.put, List.setIfInBounds_toArray, List.set_cons_zero, List.set_cons_succ]
  refine heldS_take (i := 21) (v := ?_) rfl rfl (by kernel_rfl) (by kernel_rfl) (by kernel_rfl) (fun _ _ _ h => h) (by rfl) HB0.out.drew ?_ ?_
  rotate_left
  · intro W' hW'
    go_simp
    try with_reducible rfl
  simp only [Act.put, List.setIfInBounds_toArray, List.set_cons_zero, List.set_cons_succ]
  refine heldS_take (i := 22) (v := ?_) rfl rfl (by kernel_rfl) (by kernel_rfl) (by kernel_rfl) (fun _ _ _ h => h) (by rfl) HB0.out.drew ?_ ?_
  rotate_left
  · intro W' hW'
    go_simp
    try with_reducible rfl
  simp only [Act.put, List.setIfInBounds_toArray, List.set_cons_zero, List.set_cons_succ]
  refine heldS_skip (i := 23) rfl rfl (by kernel_rfl) (by kernel_rfl) (by kernel_rfl) (fun _ _ _ h => h) (by rfl) HB0.out.drew ?_
  simp only [Act.put, List.setIfInBounds_toArray, List.set_cons_zero, List.set_cons_succ]
  refine heldS_skip (i := 24) rfl rfl (by kernel_rfl) (by kernel_rfl) (by kernel_rfl) (fun _ _ _ h => h) (by rfl) HB0.out.drew ?_
  simp only [Act.put, List.setIfInBounds_toArray, List.set_cons_zero, List.set_cons_succ]
  refine heldS_skip (i := 25) rfl rfl (by kernel_rfl) (by kernel_rfl) (by kernel_rfl) (fun _ _ _ h => h) (by rfl) HB0.out.drew ?_
  simp only [Act.put, List.setIfInBounds_toArray, List.set_cons_zero, List.set_cons_succ]
  refine heldS_skip (i := 26) rfl rfl (by kernel_rfl) (by kernel_rfl) (by kernel_rfl) (fun _ _ _ h => h) (by rfl) HB0.out.drew ?_
  simp only [Act.put, List.setIfInBounds_toArray, List.set_cons_zero, List.set_cons_succ]
  refine heldS_skip (i := 27) rfl rfl (by kernel_rfl) (by kernel_rfl) (by kernel_rfl) (fun _ _ _ h => h) (by rfl) HB0.out.drew ?_
  simp only [Act.put, List.setIfInBounds_toArray, List.set_cons_zero, List.set_cons_succ]
  refine heldS_skip (i := 28) rfl rfl (by kernel_rfl) (by kernel_rfl) (by kernel_rfl) (fun _ _ _ h => h) (by rfl) HB0.out.drew ?_
  simp only [Act.put, List.setIfInBounds_toArray, List.set_cons_zero, List.set_cons_succ]
  refine heldS_skip (i := 29) rfl rfl (by kernel_rfl) (by kernel_rfl) (by kernel_rfl) (fun _ _ _ h => h) (by rfl) HB0.out.drew ?_
  simp only [Act.put, List.setIfInBounds_toArray, List.set_cons_zero, List.set_cons_succ]
  refine heldS_skip (i := 30) rfl rfl (by kernel_rfl) (by kernel_rfl) (by kernel_rfl) (fun _ _ _ h => h) (by rfl) HB0.out.drew ?_
  simp only [Act.put, List.setIfInBounds_toArray, List.set_cons_zero, List.set_cons_succ]
  refine heldS_skip (i := 31) rfl rfl (by kernel_rfl) (by kernel_rfl) (by kernel_rfl) (fun _ _ _ h => h) (by rfl) HB0.out.drew ?_
  simp only [Act.put, List.setIfInBounds_toArray, List.set_cons_zero, List.set_cons_succ]
  refine heldS_skip (i := 32) rfl rfl (by kernel_rfl) (by kernel_rfl) (by kernel_rfl) (fun _ _ _ h => h) (by rfl) HB0.out.drew ?_
  simp only [Act.put, List.setIfInBounds_toArray, List.set_cons_zero, List.set_cons_succ]
  refine heldS_take (i := 33) (v := ?_) rfl rfl (by kernel_rfl) (by kernel_rfl) (by kernel_rfl) (fun _ _ _ h => h) (by rfl) HB0.out.drew ?_ ?_
  rotate_left
  · intro W' hW'
    go_simp
    try with_reducible rfl
  simp only [Act.put, List.setIfInBounds_toArray, List.set_cons_zero, List.set_cons_succ]
  refine wpAnyH_done (by kernel_rfl) ?_ _
  obtain ⟨W1, hW1⟩ : ∃ W1, (w.alloc (.cells #[.int .i64 0, .slice none 0 0, .slice none 0 0] 32)).drew = W1 := ⟨_, rfl⟩
  have hcs : Cs W1 w.heap.size 32 [.int .i64 0, .slice none 0 0, .slice none 0 0] := by rw [← hW1]; exact (Cs.new w _ _).drew
  have hb1 : Below w.heap.size w W1 := by rw [← hW1]; exact HB0.out.drew
  change Exit.then _ _ Exit.normal _ ((w.alloc (.cells #[.int .i64 0, .slice none 0 0, .slice none 0 0] 32)).drew)
  rw [hW1]
  clear hW1
  have f0 := hcs.free 0
  have f1 := hcs.free 1
  have f2 := hcs.free 2
  have r0 := hcs.cell 0
  have r1 := hcs.cell 1
  have r2 := hcs.cell 2
  simp only [List.getElem?_cons_succ, List.getElem?_cons_zero] at r0 r1 r2
  go_wp2
  exact bodyPost_ret (v := .tuple #[.agg #[.int .i64 0, .slice none 0 0, .slice none 0 0], .int .i64 2]) (by simp [results, Try.results44, go_sem, r0, r1, r2]) rfl ⟨rfl, ((hb1.setCell (p := ⟨w.heap.size, 0, none⟩) (Nat.le_refl _) _).setCell (p := ⟨w.heap.size, 1, none⟩) (Nat.le_refl _) _).setCell (p := ⟨w.heap.size, 2, none⟩) (Nat.le_refl _) _⟩
set_option maxHeartbeats 4000000 in
theorem decR_hgt (a : Addr) (n c : Nat) (z0 z1 : Int) (w : World) (hn : 2 ≤ n) (hc0 : w.cell? a = some (.int .u8 z0)) (hc1 : w.cell? (a.add 1) = some (.int .u8 z1)) (h0 : 0 ≤ z0 ∧ z0 ≤ 255) (h1 : 0 ≤ z1 ∧ z1 ≤ 255) (hh : 4 < z1) :
    Calls Try.prog 44 #[.slice (some a) n c] w fun e w' => e = .returned (.tuple #[.agg #[.int .i64 0, .slice none 0 0, .slice none 0 0], .int .i64 2]) ∧ Below w.heap.size w w' := by
  have hw0 : wrap64 z0 = z0 := by unfold wrap64; omega
  have hw1 : wrap64 z1 = z1 := by unfold wrap64; omega
  have hi0 : IntKind.i64.wrap z0 = z0 := by rw [IntKind.wrap_i64]; omega
  have hi1 : IntKind.i64.wrap z1 = z1 := by rw [IntKind.wrap_i64]; omega
  have hn0 : (0 : Int) < (n : Int) := by omega
  have hn1 : (1 : Int) < (n : Int) := by omega
  have hn0' : 0 < n := by omega
  have hn1' : 1 < n := by omega
  have hd2 : decide ((n : Int) < 2) = false := by simp; omega
  have HC0 := Lib.hid hc0
  have HC1 := Lib.hid hc1
  have hd4 : decide (4 < z1) = true := by simp; omega
  clear hc0 hc1
  have HB0 := Lib.hid ((Below.refl w.heap.size w).alloc (Nat.le_refl _) (.cells #[.int .i64 0, .slice none 0 0, .slice none 0 0] 32))
  go_enter Try.func44, Try.ntmps44
  go_wp2_with fail
  refine wp_region_held (S := fun W => Below w.heap.size w W) (by kernel_rfl) ?_
  refine heldS_take (i := 0) (v := ?_) rfl rfl (by kernel_rfl) (by kernel_rfl) (by kernel_rfl) (fun _ _ _ h => h) (by rfl) HB0.out.drew ?_ ?_
  rotate_left
  · intro W' hW'
    go_simp
    try with_reducible rfl
  simp only [Act.put, List.setIfInBounds_toArray, List.set_cons_zero, List.set_cons_succ]
  refine heldS_take (i := 1) (v := ?_) rfl rfl (by kernel_rfl) (by kernel_rfl) (by kernel_rfl) (fun _ _ _ h => h) (by rfl) HB0.out.drew ?_ ?_
  rotate_left
  · intro W' hW'
    go_simp
    try with_reducible rfl
  simp only [Act.put, List.setIfInBounds_toArray, List.set_cons_zero, List.set_cons_succ]
  refine heldS_take (i := 2) (v := ?_) rfl rfl (by kernel_rfl) (by kernel_rfl) (by kernel_rfl) (fun _ _ _ h => h) (by rfl) HB0.out.drew ?_ ?_
  rotate_left
  · intro W' hW'
    go_simp
    try with_reducible rfl
  simp only [Act.put, List.setIfInBounds_toArray, List.set_cons_zero, List.set_cons_succ]
  refine heldS_take (i := 3) (v := ?_) rfl rfl (by kernel_rfl) (by kernel_rfl) (by kernel_rfl) (fun _ _ _ h => h) (by rfl) HB0.out.drew ?_ ?_
  rotate_left
  · intro W' hW'
    go_simp
    try with_reducible rfl
  simp only [Act.put, List.setIfInBounds_toArray, List.set_cons_zero, List.set_cons_succ]
  refine heldS_take (i := 4) (v := ?_) rfl rfl (by kernel_rfl) (by kernel_rfl) (by kernel_rfl) (fun _ _ _ h => h) (by rfl) HB0.out.drew ?_ ?_
  rotate_left
  · intro W' hW'
    go_simp
    try with_reducible rfl
  simp only [Act.put, List.setIfInBounds_toArray, List.set_cons_zero, List.set_cons_succ]
  refine heldS_take (i := 5) (v := ?_) rfl rfl (by kernel_rfl) (by kernel_rfl) (by kernel_rfl) (fun _ _ _ h => h) (by rfl) HB0.out.drew ?_ ?_
  rotate_left
  · intro W' hW'
    go_simp
    try with_reducible rfl
  simp only [Act.put, List.setIfInBounds_toArray, List.set_cons_zero, List.set_cons_succ]
  refine heldS_take (i := 6) (v := ?_) rfl rfl (by kernel_rfl) (by kernel_rfl) (by kernel_rfl) (fun _ _ _ h => h) (by rfl) HB0.out.drew ?_ ?_
  rotate_left
  · intro W' hW'
    have e1 : W'.cell? ⟨a.block, a.off + 1, none⟩ = some (.int .u8 z1) := (hW'.cell (cell_in HC1.out)).trans HC1.out
    go_simp
    try with_reducible rfl
  simp only [Act.put, List.setIfInBounds_toArray, List.set_cons_zero, List.set_cons_succ]
  refine heldS_take (i := 7) (v := ?_) rfl rfl (by kernel_rfl) (by kernel_rfl) (by kernel_rfl) (fun _ _ _ h => h) (by rfl) HB0.out.drew ?_ ?_
  rotate_left
  · intro W' hW'
    go_simp
    try with_reducible rfl
  simp only [Act.put, List.setIfInBounds_toArray, List.set_cons_zero, List.set_cons_succ]
  refine heldS_take (i := 8) (v := ?_) rfl rfl (by kernel_rfl) (by kernel_rfl) (by kernel_rfl) (fun _ _ _ h => h) (by rfl) HB0.out.drew ?_ ?_
  rotate_left
  · intro W' hW'
    go_simp
    try with_reducible rfl
  simp only [Act.put, List.setIfInBounds_toArray, List.set_cons_zero, List.set_cons_succ]
  refine heldS_take (i := 9) (v := ?_) rfl rfl (by kernel_rfl) (by kernel_rfl) (by kernel_rfl) (fun _ _ _ h => h) (by rfl) HB0.out.drew ?_ ?_
  rotate_left
  · intro W' hW'
    go_simp
    try with_reducible rfl
  simp only [Act.put, List.setIfInBounds_toArray, List.set_cons_zero, List.set_cons_succ]
  refine heldS_take (i := 10) (v := ?_) rfl rfl (by kernel_rfl) (by kernel_rfl) (by kernel_rfl) (fun _ _ _ h => h) (by rfl) HB0.out.drew ?_ ?_
  rotate_left
  · intro W' hW'
    go_simp
    try with_reducible rfl
  simp only [Act.put, List.setIfInBounds_toArray, List.set_cons_zero, List.set_cons_succ]
  refine heldS_skip (i := 11) rfl rfl (by kernel_rfl) (by kernel_rfl) (by kernel_rfl) (fun _ _ _ h => h) (by rfl) HB0.out.drew ?_
  simp only [Act.put, List.setIfInBounds_toArray, List.set_cons_zero, List.set_cons_succ]
  refine heldS_skip (i := 12) rfl rfl (by kernel_rfl) (by kernel_rfl) (by kernel_rfl) (fun _ _ _ h => h) (by rfl) HB0.out.drew ?_
  simp only [Act.put, List.setIfInBounds_toArray, List.set_cons_zero, List.set_cons_succ]
  refine heldS_skip (i := 13) rfl rfl (by kernel_rfl) (by kernel_rfl) (by kernel_rfl) (fun _ _ _ h => h) (by rfl) HB0.out.drew ?_
  simp only [Act.put, List.setIfInBounds_toArray, List.set_cons_zero, List.set_cons_succ]
  refine heldS_skip (i := 14) rfl rfl (by kernel_rfl) (by kernel_rfl) (by kernel_rfl) (fun _ _ _ h => h) (by rfl) HB0.out.drew ?_
  simp only [Act.put, List.setIfInBounds_toArray, List.set_cons_zero, List.set_cons_succ]
  refine heldS_skip (i := 15) rfl rfl (by kernel_rfl) (by kernel_rfl) (by kernel_rfl) (fun _ _ _ h => h) (by rfl) HB0.out.drew ?_
  simp only [Act.put, List.setIfInBounds_toArray, List.set_cons_zero, List.set_cons_succ]
  refine heldS_skip (i := 16) rfl rfl (by kernel_rfl) (by kernel_rfl) (by kernel_rfl) (fun _ _ _ h => h) (by rfl) HB0.out.drew ?_
  simp only [Act.put, List.setIfInBounds_toArray, List.set_cons_zero, List.set_cons_succ]
  refine heldS_skip (i := 17) rfl rfl (by kernel_rfl) (by kernel_rfl) (by kernel_rfl) (fun _ _ _ h => h) (by rfl) HB0.out.drew ?_
  simp only [Act.put, List.setIfInBounds_toArray, List.set_cons_zero, List.set_cons_succ]
  refine heldS_skip (i := 18) rfl rfl (by kernel_rfl) (by kernel_rfl) (by kernel_rfl) (fun _ _ _ h => h) (by rfl) HB0.out.drew ?_
  simp only [Act.put, List.setIfInBounds_toArray, List.set_cons_zero, List.set_cons_succ]
  refine heldS_skip (i := 19) rfl rfl (by kernel_rfl) (by kernel_rfl) (by kernel_rfl) (fun _ _ _ h => h) (by rfl) HB0.out.drew ?_
  simp only [Act.put, List.setIfInBounds_toArray, List.set_cons_zero, List.set_cons_succ]
  refine heldS_skip (i := 20) rfl rfl (by kernel_rfl) (by kernel_rfl) (by kernel_rfl) (fun _ _ _ h => h) (by rfl) HB0.out.drew ?_
  simp only [Act.put, List.setIfInBounds_toArray, List.set_cons_zero, List.set_cons_succ]
  refine heldS_take (i := 21) (v := ?_) rfl rfl (by kernel_rfl) (by kernel_rfl) (by kernel_rfl) (fun _ _ _ h => h) (by rfl) HB0.out.drew ?_ ?_
  rotate_left
  · intro W' hW'
    go_simp
    try with_reducible rfl
  simp only [Act.put, List.setIfInBounds_toArray, List.set_cons_zero, List.set_cons_succ]
  refine heldS_take (i := 22) (v := ?_) rfl rfl (by kernel_rfl) (by kernel_rfl) (by kernel_rfl) (fun _ _ _ h => h) (by rfl) HB0.out.drew ?_ ?_
  rotate_left
  · intro W' hW'
    go_simp
    try with_reducible rfl
  simp only [Act.put, List.setIfInBounds_toArray, List.set_cons_zero, List.set_cons_succ]
  refine heldS_skip (i := 23) rfl rfl (by kernel_rfl) (by kernel_rfl) (by kernel_rfl) (fun _ _ _ h => h) (by rfl) HB0.out.drew ?_
  simp only [Act.put, List.setIfInBounds_toArray, List.set_cons_zero, List.set_cons_succ]
  refine heldS_skip (i := 24) rfl rfl (by kernel_rfl) (by kernel_rfl) (by kernel_rfl) (fun _ _ _ h => h) (by rfl) HB0.out.drew ?_
  simp only [Act.put, List.setIfInBounds_toArray, List.set_cons_zero, List.set_cons_succ]
  refine heldS_skip (i := 25) rfl rfl (by kernel_rfl) (by kernel_rfl) (by kernel_rfl) (fun _ _ _ h => h) (by rfl) HB0.out.drew ?_
  simp only [Act.put, List.setIfInBounds_toArray, List.set_cons_zero, List.set_cons_succ]
  refine heldS_skip (i := 26) rfl rfl (by kernel_rfl) (by kernel_rfl) (by kernel_rfl) (fun _ _ _ h => h) (by rfl) HB0.out.drew ?_
  simp only [Act.put, List.setIfInBounds_toArray, List.set_cons_zero, List.set_cons_succ]
  refine heldS_skip (i := 27) rfl rfl (by kernel_rfl) (by kernel_rfl) (by kernel_rfl) (fun _ _ _ h => h) (by rfl) HB0.out.drew ?_
  simp only [Act.put, List.setIfInBounds_toArray, List.set_cons_zero, List.set_cons_succ]
  refine heldS_skip (i := 28) rfl rfl (by kernel_rfl) (by kernel_rfl) (by kernel_rfl) (fun _ _ _ h => h) (by rfl) HB0.out.drew ?_
  simp only [Act.put, List.setIfInBounds_toArray, List.set_cons_zero, List.set_cons_succ]
  refine heldS_skip (i := 29) rfl rfl (by kernel_rfl) (by kernel_rfl) (by kernel_rfl) (fun _ _ _ h => h) (by rfl) HB0.out.drew ?_
  simp only [Act.put, List.setIfInBounds_toArray, List.set_cons_zero, List.set_cons_succ]
  refine heldS_skip (i := 30) rfl rfl (by kernel_rfl) (by kernel_rfl) (by kernel_rfl) (fun _ _ _ h => h) (by rfl) HB0.out.drew ?_
  simp only [Act.put, List.setIfInBounds_toArray, List.set_cons_zero, List.set_cons_succ]
  refine heldS_skip (i := 31) rfl rfl (by kernel_rfl) (by kernel_rfl) (by kernel_rfl) (fun _ _ _ h => h) (by rfl) HB0.out.drew ?_
  simp only [Act.put, List.setIfInBounds_toArray, List.set_cons_zero, List.set_cons_succ]
  refine heldS_skip (i := 32) rfl rfl (by kernel_rfl) (by kernel_rfl) (by kernel_rfl) (fun _ _ _ h => h) (by rfl) HB0.out.drew ?_
  simp only [Act.put, List.setIfInBounds_toArray, List.set_cons_zero, List.set_cons_succ]
  refine heldS_take (i := 33) (v := ?_) rfl rfl (by kernel_rfl) (by kernel_rfl) (by kernel_rfl) (fun _ _ _ h => h) (by rfl) HB0.out.drew ?_ ?_
  rotate_left
  · intro W' hW'
    go_simp
    try with_reducible rfl
  simp only [Act.put, List.setIfInBounds_toArray, List.set_cons_zero, List.set_cons_succ]
  refine wpAnyH_done (by kernel_rfl) ?_ _
  obtain ⟨W1, hW1⟩ : ∃ W1, (w.alloc (.cells #[.int .i64 0, .slice none 0 0, .slice none 0 0] 32)).drew = W1 := ⟨_, rfl⟩
  have hcs : Cs W1 w.heap.size 32 [.int .i64 0, .slice none 0 0, .slice none 0 0] := by rw [← hW1]; exact (Cs.new w _ _).drew
  have hb1 : Below w.heap.size w W1 := by rw [← hW1]; exact HB0.out.drew
  change Exit.then _ _ Exit.normal _ ((w.alloc (.cells #[.int .i64 0, .slice none 0 0, .slice none 0 0] 32)).drew)
  rw [hW1]
  clear hW1
  have f0 := hcs.free 0
  have f1 := hcs.free 1
  have f2 := hcs.free 2
  have r0 := hcs.cell 0
  have r1 := hcs.cell 1
  have r2 := hcs.cell 2
  simp only [List.getElem?_cons_succ, List.getElem?_cons_zero] at r0 r1 r2
  go_wp2
  exact bodyPost_ret (v := .tuple #[.agg #[.int .i64 0, .slice none 0 0, .slice none 0 0], .int .i64 2]) (by simp [results, Try.results44, go_sem, r0, r1, r2]) rfl ⟨rfl, ((hb1.setCell (p := ⟨w.heap.size, 0, none⟩) (Nat.le_refl _) _).setCell (p := ⟨w.heap.size, 1, none⟩) (Nat.le_refl _) _).setCell (p := ⟨w.heap.size, 2, none⟩) (Nat.le_refl _) _⟩
set_option maxHeartbeats 4000000 in
theorem decR_leaf (a : Addr) (n c : Nat) (z0 : Int) (H : Nat) (w : World) (hn : 2 ≤ n) (hc0 : w.cell? a = some (.int .u8 z0)) (hc1 : w.cell? (a.add 1) = some (.int .u8 (H : Int))) (h0 : 0 ≤ z0 ∧ z0 ≤ 255) (h1 : 0 ≤ (H : Int) ∧ (H : Int) ≤ 255) (hH : H ≤ 4) (hl : (((2 ^ H : Nat) : Int) ≤ z0)) :
    Calls Try.prog 44 #[.slice (some a) n c] w fun e w' => e = .returned (.tuple #[.agg #[.int .i64 0, .slice none 0 0, .slice none 0 0], .int .i64 2]) ∧ Below w.heap.size w w' := by
  have hw0 : wrap64 z0 = z0 := by unfold wrap64; omega
  have hw1 : wrap64 (H : Int) = (H : Int) := by unfold wrap64; omega
  have hi0 : IntKind.i64.wrap z0 = z0 := by rw [IntKind.wrap_i64]; omega
  have hi1 : IntKind.i64.wrap (H : Int) = (H : Int) := by rw [IntKind.wrap_i64]; omega
  have hn0 : (0 : Int) < (n : Int) := by omega
  have hn1 : (1 : Int) < (n : Int) := by omega
  have hn0' : 0 < n := by omega
  have hn1' : 1 < n := by omega
  have hd2 : decide ((n : Int) < 2) = false := by simp; omega
  have HC0 := Lib.hid hc0
  have HC1 := Lib.hid hc1
  have hp := pow_le H hH
  have hwr := wrap_pow H hH
  obtain ⟨z1, z2, z3, z4⟩ := sz_small H hH
  obtain ⟨N, hN⟩ : ∃ N : Nat, 2 ^ H = N := ⟨_, rfl⟩
  rw [hN] at hp hwr hl
  have hwi : IntKind.i64.wrap ((2 : Int) ^ H) = (N : Int) := (wrap_i64_64 _).trans hwr
  have y1 := (wrap_i64_64 _).trans z1
  have y2 := (wrap_i64_64 _).trans z2
  have y3 := (wrap_i64_64 _).trans z3
  have hH63 : ¬ (63 : Int) < (H : Int) := by omega
  have hmH : min H 64 = H := by omega
  have hd4 : decide (4 < (H : Int)) = false := by simp; omega
  clear hc0 hc1
  have hdl : decide ((N : Int) ≤ z0) = true := by simp; omega
  have HB0 := Lib.hid ((Below.refl w.heap.size w).alloc (Nat.le_refl _) (.cells #[.int .i64 0, .slice none 0 0, .slice none 0 0] 32))
  go_enter Try.func44, Try.ntmps44
  go_wp2_with fail
  refine wp_region_held (S := fun W => Below w.heap.size w W) (by kernel_rfl) ?_
  refine heldS_take (i := 0) (v := ?_) rfl rfl (by kernel_rfl) (by kernel_rfl) (by kernel_rfl) (fun _ _ _ h => h) (by rfl) HB0.out.drew ?_ ?_
  rotate_left
  · intro W' hW'
    go_simp
    try with_reducible rfl
  simp only [Act.put, List.setIfInBounds_toArray, List.set_cons_zero, List.set_cons_succ]
  refine heldS_take (i := 1) (v := ?_) rfl rfl (by kernel_rfl) (by kernel_rfl) (by kernel_rfl) (fun _ _ _ h => h) (by rfl) HB0.out.drew ?_ ?_
  rotate_left
  · intro W' hW'
    go_simp
    try with_reducible rfl
  simp only [Act.put, List.setIfInBounds_toArray, List.set_cons_zero, List.set_cons_succ]
  refine heldS_take (i := 2) (v := ?_) rfl rfl (by kernel_rfl) (by kernel_rfl) (by kernel_rfl) (fun _ _ _ h => h) (by rfl) HB0.out.drew ?_ ?_
  rotate_left
  · intro W' hW'
    go_simp
    try with_reducible rfl
  simp only [Act.put, List.setIfInBounds_toArray, List.set_cons_zero, List.set_cons_succ]
  refine heldS_take (i := 3) (v := ?_) rfl rfl (by kernel_rfl) (by kernel_rfl) (by kernel_rfl) (fun _ _ _ h => h) (by rfl) HB0.out.drew ?_ ?_
  rotate_left
  · intro W' hW'
    go_simp
    try with_reducible rfl
  simp only [Act.put, List.setIfInBounds_toArray, List.set_cons_zero, List.set_cons_succ]
  refine heldS_take (i := 4) (v := ?_) rfl rfl (by kernel_rfl) (by kernel_rfl) (by kernel_rfl) (fun _ _ _ h => h) (by rfl) HB0.out.drew ?_ ?_
  rotate_left
  · intro W' hW'
    go_simp
    try with_reducible rfl
  simp only [Act.put, List.setIfInBounds_toArray, List.set_cons_zero, List.set_cons_succ]
  refine heldS_take (i := 5) (v := ?_) rfl rfl (by kernel_rfl) (by kernel_rfl) (by kernel_rfl) (fun _ _ _ h => h) (by rfl) HB0.out.drew ?_ ?_
  rotate_left
  · intro W' hW'
    go_simp
    try with_reducible rfl
  simp only [Act.put, List.setIfInBounds_toArray, List.set_cons_zero, List.set_cons_succ]
  refine heldS_take (i := 6) (v := ?_) rfl rfl (by kernel_rfl) (by kernel_rfl) (by kernel_rfl) (fun _ _ _ h => h) (by rfl) HB0.out.drew ?_ ?_
  rotate_left
  · intro W' hW'
    have e1 : W'.cell? ⟨a.block, a.off + 1, none⟩ = some (.int .u8 (H : Int)) := (hW'.cell (cell_in HC1.out)).trans HC1.out
    go_simp
    try with_reducible rfl
  simp only [Act.put, List.setIfInBounds_toArray, List.set_cons_zero, List.set_cons_succ]
  refine heldS_take (i := 7) (v := ?_) rfl rfl (by kernel_rfl) (by kernel_rfl) (by kernel_rfl) (fun _ _ _ h => h) (by rfl) HB0.out.drew ?_ ?_
  rotate_left
  · intro W' hW'
    go_simp
    try with_reducible rfl
  simp only [Act.put, List.setIfInBounds_toArray, List.set_cons_zero, List.set_cons_succ]
  refine heldS_take (i := 8) (v := ?_) rfl rfl (by kernel_rfl) (by kernel_rfl) (by kernel_rfl) (fun _ _ _ h => h) (by rfl) HB0.out.drew ?_ ?_
  rotate_left
  · intro W' hW'
    go_simp
    try with_reducible rfl
  simp only [Act.put, List.setIfInBounds_toArray, List.set_cons_zero, List.set_cons_succ]
  refine heldS_take (i := 9) (v := ?_) rfl rfl (by kernel_rfl) (by kernel_rfl) (by kernel_rfl) (fun _ _ _ h => h) (by rfl) HB0.out.drew ?_ ?_
  rotate_left
  · intro W' hW'
    go_simp
    try with_reducible rfl
  simp only [Act.put, List.setIfInBounds_toArray, List.set_cons_zero, List.set_cons_succ]
  refine heldS_take (i := 10) (v := ?_) rfl rfl (by kernel_rfl) (by kernel_rfl) (by kernel_rfl) (fun _ _ _ h => h) (by rfl) HB0.out.drew ?_ ?_
  rotate_left
  · intro W' hW'
    go_simp
    try with_reducible rfl
  simp only [Act.put, List.setIfInBounds_toArray, List.set_cons_zero, List.set_cons_succ]
  refine heldS_take (i := 11) (v := ?_) rfl rfl (by kernel_rfl) (by kernel_rfl) (by kernel_rfl) (fun _ _ _ h => h) (by rfl) HB0.out.drew ?_ ?_
  rotate_left
  · intro W' hW'
    go_simp
    try with_reducible rfl
  simp only [Act.put, List.setIfInBounds_toArray, List.set_cons_zero, List.set_cons_succ]
  refine heldS_take (i := 12) (v := ?_) rfl rfl (by kernel_rfl) (by kernel_rfl) (by kernel_rfl) (fun _ _ _ h => h) (by rfl) HB0.out.drew ?_ ?_
  rotate_left
  · intro W' hW'
    go_simp
    try with_reducible rfl
  simp only [Act.put, List.setIfInBounds_toArray, List.set_cons_zero, List.set_cons_succ]
  refine heldS_take (i := 13) (v := ?_) rfl rfl (by kernel_rfl) (by kernel_rfl) (by kernel_rfl) (fun _ _ _ h => h) (by rfl) HB0.out.drew ?_ ?_
  rotate_left
  · intro W' hW'
    have e0 := (hW'.cell (cell_in HC0.out)).trans HC0.out
    go_simp
    try with_reducible rfl
  simp only [Act.put, List.setIfInBounds_toArray, List.set_cons_zero, List.set_cons_succ]
  refine heldS_take (i := 14) (v := ?_) rfl rfl (by kernel_rfl) (by kernel_rfl) (by kernel_rfl) (fun _ _ _ h => h) (by rfl) HB0.out.drew ?_ ?_
  rotate_left
  · intro W' hW'
    go_simp
    try with_reducible rfl
  simp only [Act.put, List.setIfInBounds_toArray, List.set_cons_zero, List.set_cons_succ]
  refine heldS_take (i := 15) (v := ?_) rfl rfl (by kernel_rfl) (by kernel_rfl) (by kernel_rfl) (fun _ _ _ h => h) (by rfl) HB0.out.drew ?_ ?_
  rotate_left
  · intro W' hW'
    go_simp
    try with_reducible rfl
  simp only [Act.put, List.setIfInBounds_toArray, List.set_cons_zero, List.set_cons_succ]
  refine heldS_take (i := 16) (v := ?_) rfl rfl (by kernel_rfl) (by kernel_rfl) (by kernel_rfl) (fun _ _ _ h => h) (by rfl) HB0.out.drew ?_ ?_
  rotate_left
  · intro W' hW'
    go_simp
    try with_reducible rfl
  simp only [Act.put, List.setIfInBounds_toArray, List.set_cons_zero, List.set_cons_succ]
  refine heldS_take (i := 17) (v := ?_) rfl rfl (by kernel_rfl) (by kernel_rfl) (by kernel_rfl) (fun _ _ _ h => h) (by rfl) HB0.out.drew ?_ ?_
  rotate_left
  · intro W' hW'
    have e1 : W'.cell? ⟨a.block, a.off + 1, none⟩ = some (.int .u8 (H : Int)) := (hW'.cell (cell_in HC1.out)).trans HC1.out
    go_simp
    try with_reducible rfl
  simp only [Act.put, List.setIfInBounds_toArray, List.set_cons_zero, List.set_cons_succ]
  refine heldS_take (i := 18) (v := ?_) rfl rfl (by kernel_rfl) (by kernel_rfl) (by kernel_rfl) (fun _ _ _ h => h) (by rfl) HB0.out.drew ?_ ?_
  rotate_left
  · intro W' hW'
    go_simp
    try with_reducible rfl
  simp only [Act.put, List.setIfInBounds_toArray, List.set_cons_zero, List.set_cons_succ]
  refine heldS_take (i := 19) (v := ?_) rfl rfl (by kernel_rfl) (by kernel_rfl) (by kernel_rfl) (fun _ _ _ h => h) (by rfl) HB0.out.drew ?_ ?_
  rotate_left
  · intro W' hW'
    go_simp
    try with_reducible rfl
  simp only [Act.put, List.setIfInBounds_toArray, List.set_cons_zero, List.set_cons_succ]
  refine heldS_take (i := 20) (v := ?_) rfl rfl (by kernel_rfl) (by kernel_rfl) (by kernel_rfl) (fun _ _ _ h => h) (by rfl) HB0.out.drew ?_ ?_
  rotate_left
  · intro W' hW'
    go_simp
    try with_reducible rfl
  simp only [Act.put, List.setIfInBounds_toArray, List.set_cons_zero, List.set_cons_succ]
  refine heldS_take (i := 21) (v := ?_) rfl rfl (by kernel_rfl) (by kernel_rfl) (by kernel_rfl) (fun _ _ _ h => h) (by rfl) HB0.out.drew ?_ ?_
  rotate_left
  · intro W' hW'
    go_simp
    try with_reducible rfl
  simp only [Act.put, List.setIfInBounds_toArray, List.set_cons_zero, List.set_cons_succ]
  refine heldS_take (i := 22) (v := ?_) rfl rfl (by kernel_rfl) (by kernel_rfl) (by kernel_rfl) (fun _ _ _ h => h) (by rfl) HB0.out.drew ?_ ?_
  rotate_left
  · intro W' hW'
    go_simp
    try with_reducible rfl
  simp only [Act.put, List.setIfInBounds_toArray, List.set_cons_zero, List.set_cons_succ]
  refine heldS_skip (i := 23) rfl rfl (by kernel_rfl) (by kernel_rfl) (by kernel_rfl) (fun _ _ _ h => h) (by rfl) HB0.out.drew ?_
  simp only [Act.put, List.setIfInBounds_toArray, List.set_cons_zero, List.set_cons_succ]
  refine heldS_skip (i := 24) rfl rfl (by kernel_rfl) (by kernel_rfl) (by kernel_rfl) (fun _ _ _ h => h) (by rfl) HB0.out.drew ?_
  simp only [Act.put, List.setIfInBounds_toArray, List.set_cons_zero, List.set_cons_succ]
  refine heldS_skip (i := 25) rfl rfl (by kernel_rfl) (by kernel_rfl) (by kernel_rfl) (fun _ _ _ h => h) (by rfl) HB0.out.drew ?_
  simp only [Act.put, List.setIfInBounds_toArray, List.set_cons_zero, List.set_cons_succ]
  refine heldS_skip (i := 26) rfl rfl (by kernel_rfl) (by kernel_rfl) (by kernel_rfl) (fun _ _ _ h => h) (by rfl) HB0.out.drew ?_
  simp only [Act.put, List.setIfInBounds_toArray, List.set_cons_zero, List.set_cons_succ]
  refine heldS_skip (i := 27) rfl rfl (by kernel_rfl) (by kernel_rfl) (by kernel_rfl) (fun _ _ _ h => h) (by rfl) HB0.out.drew ?_
  simp only [Act.put, List.setIfInBounds_toArray, List.set_cons_zero, List.set_cons_succ]
  refine heldS_skip (i := 28) rfl rfl (by kernel_rfl) (by kernel_rfl) (by kernel_rfl) (fun _ _ _ h => h) (by rfl) HB0.out.drew ?_
  simp only [Act.put, List.setIfInBounds_toArray, List.set_cons_zero, List.set_cons_succ]
  refine heldS_skip (i := 29) rfl rfl (by kernel_rfl) (by kernel_rfl) (by kernel_rfl) (fun _ _ _ h => h) (by rfl) HB0.out.drew ?_
  simp only [Act.put, List.setIfInBounds_toArray, List.set_cons_zero, List.set_cons_succ]
  refine heldS_skip (i := 30) rfl rfl (by kernel_rfl) (by kernel_rfl) (by kernel_rfl) (fun _ _ _ h => h) (by rfl) HB0.out.drew ?_
  simp only [Act.put, List.setIfInBounds_toArray, List.set_cons_zero, List.set_cons_succ]
  refine heldS_skip (i := 31) rfl rfl (by kernel_rfl) (by kernel_rfl) (by kernel_rfl) (fun _ _ _ h => h) (by rfl) HB0.out.drew ?_
  simp only [Act.put, List.setIfInBounds_toArray, List.set_cons_zero, List.set_cons_succ]
  refine heldS_skip (i := 32) rfl rfl (by kernel_rfl) (by kernel_rfl) (by kernel_rfl) (fun _ _ _ h => h) (by rfl) HB0.out.drew ?_
  simp only [Act.put, List.setIfInBounds_toArray, List.set_cons_zero, List.set_cons_succ]
  refine heldS_take (i := 33) (v := ?_) rfl rfl (by kernel_rfl) (by kernel_rfl) (by kernel_rfl) (fun _ _ _ h => h) (by rfl) HB0.out.drew ?_ ?_
  rotate_left
  · intro W' hW'
    go_simp
    try with_reducible rfl
  simp only [Act.put, List.setIfInBounds_toArray, List.set_cons_zero, List.set_cons_succ]
  refine wpAnyH_done (by kernel_rfl) ?_ _
  obtain ⟨W1, hW1⟩ : ∃ W1, (w.alloc (.cells #[.int .i64 0, .slice none 0 0, .slice none 0 0] 32)).drew = W1 := ⟨_, rfl⟩
  have hcs : Cs W1 w.heap.size 32 [.int .i64 0, .slice none 0 0, .slice none 0 0] := by rw [← hW1]; exact (Cs.new w _ _).drew
  have hb1 : Below w.heap.size w W1 := by rw [← hW1]; exact HB0.out.drew
  change Exit.then _ _ Exit.normal _ ((w.alloc (.cells #[.int .i64 0, .slice none 0 0, .slice none 0 0] 32)).drew)
  rw [hW1]
  clear hW1
  have f0 := hcs.free 0
  have f1 := hcs.free 1
  have f2 := hcs.free 2
  have r0 := hcs.cell 0
  have r1 := hcs.cell 1
  have r2 := hcs.cell 2
  simp only [List.getElem?_cons_succ, List.getElem?_cons_zero] at r0 r1 r2
  go_wp2
  exact bodyPost_ret (v := .tuple #[.agg #[.int .i64 0, .slice none 0 0, .slice none 0 0], .int .i64 2]) (by simp [results, Try.results44, go_sem, r0, r1, r2]) rfl ⟨rfl, ((hb1.setCell (p := ⟨w.heap.size, 0, none⟩) (Nat.le_refl _) _).setCell (p := ⟨w.heap.size, 1, none⟩) (Nat.le_refl _) _).setCell (p := ⟨w.heap.size, 2, none⟩) (Nat.le_refl _) _⟩
set_option maxHeartbeats 4000000 in
theorem decR_size (a : Addr) (n c : Nat) (z0 : Int) (H : Nat) (w : World) (hn : 2 ≤ n) (hc0 : w.cell? a = some (.int .u8 z0)) (hc1 : w.cell? (a.add 1) = some (.int .u8 (H : Int))) (h0 : 0 ≤ z0 ∧ z0 ≤ 255) (h1 : 0 ≤ (H : Int) ∧ (H : Int) ≤ 255) (hH : H ≤ 4) (hl : z0 < ((2 ^ H : Nat) : Int)) (hq : n ≠ 146 + 8 * H) :
    Calls Try.prog 44 #[.slice (some a) n c] w fun e w' => e = .returned (.tuple #[.agg #[.int .i64 0, .slice none 0 0, .slice none 0 0], .int .i64 2]) ∧ Below w.heap.size w w' := by
  have hw0 : wrap64 z0 = z0 := by unfold wrap64; omega
  have hw1 : wrap64 (H : Int) = (H : Int) := by unfold wrap64; omega
  have hi0 : IntKind.i64.wrap z0 = z0 := by rw [IntKind.wrap_i64]; omega
  have hi1 : IntKind.i64.wrap (H : Int) = (H : Int) := by rw [IntKind.wrap_i64]; omega
  have hn0 : (0 : Int) < (n : Int) := by omega
  have hn1 : (1 : Int) < (n : Int) := by omega
  have hn0' : 0 < n := by omega
  have hn1' : 1 < n := by omega
  have hd2 : decide ((n : Int) < 2) = false := by simp; omega
  have HC0 := Lib.hid hc0
  have HC1 := Lib.hid hc1
  have hp := pow_le H hH
  have hwr := wrap_pow H hH
  obtain ⟨z1, z2, z3, z4⟩ := sz_small H hH
  obtain ⟨N, hN⟩ : ∃ N : Nat, 2 ^ H = N := ⟨_, rfl⟩
  rw [hN] at hp hwr hl
  have hwi : IntKind.i64.wrap ((2 : Int) ^ H) = (N : Int) := (wrap_i64_64 _).trans hwr
  have y1 := (wrap_i64_64 _).trans z1
  have y2 := (wrap_i64_64 _).trans z2
  have y3 := (wrap_i64_64 _).trans z3
  have hH63 : ¬ (63 : Int) < (H : Int) := by omega
  have hmH : min H 64 = H := by omega
  have hd4 : decide (4 < (H : Int)) = false := by simp; omega
  clear hc0 hc1
  have hdl : decide ((N : Int) ≤ z0) = false := by simp; omega
  have hne : ((n : Int) != (2 + 8 * (18 + (H : Int)))) = true := by simp; omega
  have HB0 := Lib.hid ((Below.refl w.heap.size w).alloc (Nat.le_refl _) (.cells #[.int .i64 0, .slice none 0 0, .slice none 0 0] 32))
  go_enter Try.func44, Try.ntmps44
  go_wp2_with fail
  refine wp_region_held (S := fun W => Below w.heap.size w W) (by kernel_rfl) ?_
  refine heldS_take (i := 0) (v := ?_) rfl rfl (by kernel_rfl) (by kernel_rfl) (by kernel_rfl) (fun _ _ _ h => h) (by rfl) HB0.out.drew ?_ ?_
  rotate_left
  · intro W' hW'
    go_simp
    try with_reducible rfl
  simp only [Act.put, List.setIfInBounds_toArray, List.set_cons_zero, List.set_cons_succ]
  refine heldS_take (i := 1) (v := ?_) rfl rfl (by kernel_rfl) (by kernel_rfl) (by kernel_rfl) (fun _ _ _ h => h) (by rfl) HB0.out.drew ?_ ?_
  rotate_left
  · intro W' hW'
    go_simp
    try with_reducible rfl
  simp only [Act.put, List.setIfInBounds_toArray, List.set_cons_zero, List.set_cons_succ]
  refine heldS_take (i := 2) (v := ?_) rfl rfl (by kernel_rfl) (by kernel_rfl) (by kernel_rfl) (fun _ _ _ h => h) (by rfl) HB0.out.drew ?_ ?_
  rotate_left
  · intro W' hW'
    go_simp
    try with_reducible rfl
  simp only [Act.put, List.setIfInBounds_toArray, List.set_cons_zero, List.set_cons_succ]
  refine heldS_take (i := 3) (v := ?_) rfl rfl (by kernel_rfl) (by kernel_rfl) (by kernel_rfl) (fun _ _ _ h => h) (by rfl) HB0.out.drew ?_ ?_
  rotate_left
  · intro W' hW'
    go_simp
    try with_reducible rfl
  simp only [Act.put, List.setIfInBounds_toArray, List.set_cons_zero, List.set_cons_succ]
  refine heldS_take (i := 4) (v := ?_) rfl rfl (by kernel_rfl) (by kernel_rfl) (by kernel_rfl) (fun _ _ _ h => h) (by rfl) HB0.out.drew ?_ ?_
  rotate_left
  · intro W' hW'
    go_simp
    try with_reducible rfl
  simp only [Act.put, List.setIfInBounds_toArray, List.set_cons_zero, List.set_cons_succ]
  refine heldS_take (i := 5) (v := ?_) rfl rfl (by kernel_rfl) (by kernel_rfl) (by kernel_rfl) (fun _ _ _ h => h) (by rfl) HB0.out.drew ?_ ?_
  rotate_left
  · intro W' hW'
    go_simp
    try with_reducible rfl
  simp only [Act.put, List.setIfInBounds_toArray, List.set_cons_zero, List.set_cons_succ]
  refine heldS_take (i := 6) (v := ?_) rfl rfl (by kernel_rfl) (by kernel_rfl) (by kernel_rfl) (fun _ _ _ h => h) (by rfl) HB0.out.drew ?_ ?_
  rotate_left
  · intro W' hW'
    have e1 : W'.cell? ⟨a.block, a.off + 1, none⟩ = some (.int .u8 (H : Int)) := (hW'.cell (cell_in HC1.out)).trans HC1.out
    go_simp
    try with_reducible rfl
  simp only [Act.put, List.setIfInBounds_toArray, List.set_cons_zero, List.set_cons_succ]
  refine heldS_take (i := 7) (v := ?_) rfl rfl (by kernel_rfl) (by kernel_rfl) (by kernel_rfl) (fun _ _ _ h => h) (by rfl) HB0.out.drew ?_ ?_
  rotate_left
  · intro W' hW'
    go_simp
    try with_reducible rfl
  simp only [Act.put, List.setIfInBounds_toArray, List.set_cons_zero, List.set_cons_succ]
  refine heldS_take (i := 8) (v := ?_) rfl rfl (by kernel_rfl) (by kernel_rfl) (by kernel_rfl) (fun _ _ _ h => h) (by rfl) HB0.out.drew ?_ ?_
  rotate_left
  · intro W' hW'
    go_simp
    try with_reducible rfl
  simp only [Act.put, List.setIfInBounds_toArray, List.set_cons_zero, List.set_cons_succ]
  refine heldS_take (i := 9) (v := ?_) rfl rfl (by kernel_rfl) (by kernel_rfl) (by kernel_rfl) (fun _ _ _ h => h) (by rfl) HB0.out.drew ?_ ?_
  rotate_left
  · intro W' hW'
    go_simp
    try with_reducible rfl
  simp only [Act.put, List.setIfInBounds_toArray, List.set_cons_zero, List.set_cons_succ]
  refine heldS_take (i := 10) (v := ?_) rfl rfl (by kernel_rfl) (by kernel_rfl) (by kernel_rfl) (fun _ _ _ h => h) (by rfl) HB0.out.drew ?_ ?_
  rotate_left
  · intro W' hW'
    go_simp
    try with_reducible rfl
  simp only [Act.put, List.setIfInBounds_toArray, List.set_cons_zero, List.set_cons_succ]
  refine heldS_take (i := 11) (v := ?_) rfl rfl (by kernel_rfl) (by kernel_rfl) (by kernel_rfl) (fun _ _ _ h => h) (by rfl) HB0.out.drew ?_ ?_
  rotate_left
  · intro W' hW'
    go_simp
    try with_reducible rfl
  simp only [Act.put, List.setIfInBounds_toArray, List.set_cons_zero, List.set_cons_succ]
  refine heldS_take (i := 12) (v := ?_) rfl rfl (by kernel_rfl) (by kernel_rfl) (by kernel_rfl) (fun _ _ _ h => h) (by rfl) HB0.out.drew ?_ ?_
  rotate_left
  · intro W' hW'
    go_simp
    try with_reducible rfl
  simp only [Act.put, List.setIfInBounds_toArray, List.set_cons_zero, List.set_cons_succ]
  refine heldS_take (i := 13) (v := ?_) rfl rfl (by kernel_rfl) (by kernel_rfl) (by kernel_rfl) (fun _ _ _ h => h) (by rfl) HB0.out.drew ?_ ?_
  rotate_left
  · intro W' hW'
    have e0 := (hW'.cell (cell_in HC0.out)).trans HC0.out
    go_simp
    try with_reducible rfl
  simp only [Act.put, List.setIfInBounds_toArray, List.set_cons_zero, List.set_cons_succ]
  refine heldS_take (i := 14) (v := ?_) rfl rfl (by kernel_rfl) (by kernel_rfl) (by kernel_rfl) (fun _ _ _ h => h) (by rfl) HB0.out.drew ?_ ?_
  rotate_left
  · intro W' hW'
    go_simp
    try with_reducible rfl
  simp only [Act.put, List.setIfInBounds_toArray, List.set_cons_zero, List.set_cons_succ]
  refine heldS_take (i := 15) (v := ?_) rfl rfl (by kernel_rfl) (by kernel_rfl) (by kernel_rfl) (fun _ _ _ h => h) (by rfl) HB0.out.drew ?_ ?_
  rotate_left
  · intro W' hW'
    go_simp
    try with_reducible rfl
  simp only [Act.put, List.setIfInBounds_toArray, List.set_cons_zero, List.set_cons_succ]
  refine heldS_take (i := 16) (v := ?_) rfl rfl (by kernel_rfl) (by kernel_rfl) (by kernel_rfl) (fun _ _ _ h => h) (by rfl) HB0.out.drew ?_ ?_
  rotate_left
  · intro W' hW'
    go_simp
    try with_reducible rfl
  simp only [Act.put, List.setIfInBounds_toArray, List.set_cons_zero, List.set_cons_succ]
  refine heldS_take (i := 17) (v := ?_) rfl rfl (by kernel_rfl) (by kernel_rfl) (by kernel_rfl) (fun _ _ _ h => h) (by rfl) HB0.out.drew ?_ ?_
  rotate_left
  · intro W' hW'
    have e1 : W'.cell? ⟨a.block, a.off + 1, none⟩ = some (.int .u8 (H : Int)) := (hW'.cell (cell_in HC1.out)).trans HC1.out
    go_simp
    try with_reducible rfl
  simp only [Act.put, List.setIfInBounds_toArray, List.set_cons_zero, List.set_cons_succ]
  refine heldS_take (i := 18) (v := ?_) rfl rfl (by kernel_rfl) (by kernel_rfl) (by kernel_rfl) (fun _ _ _ h => h) (by rfl) HB0.out.drew ?_ ?_
  rotate_left
  · intro W' hW'
    go_simp
    try with_reducible rfl
  simp only [Act.put, List.setIfInBounds_toArray, List.set_cons_zero, List.set_cons_succ]
  refine heldS_take (i := 19) (v := ?_) rfl rfl (by kernel_rfl) (by kernel_rfl) (by kernel_rfl) (fun _ _ _ h => h) (by rfl) HB0.out.drew ?_ ?_
  rotate_left
  · intro W' hW'
    go_simp
    try with_reducible rfl
  simp only [Act.put, List.setIfInBounds_toArray, List.set_cons_zero, List.set_cons_succ]
  refine heldS_take (i := 20) (v := ?_) rfl rfl (by kernel_rfl) (by kernel_rfl) (by kernel_rfl) (fun _ _ _ h => h) (by rfl) HB0.out.drew ?_ ?_
  rotate_left
  · intro W' hW'
    go_simp
    try with_reducible rfl
  simp only [Act.put, List.setIfInBounds_toArray, List.set_cons_zero, List.set_cons_succ]
  refine heldS_take (i := 21) (v := ?_) rfl rfl (by kernel_rfl) (by kernel_rfl) (by kernel_rfl) (fun _ _ _ h => h) (by rfl) HB0.out.drew ?_ ?_
  rotate_left
  · intro W' hW'
    go_simp
    try with_reducible rfl
  simp only [Act.put, List.setIfInBounds_toArray, List.set_cons_zero, List.set_cons_succ]
  refine heldS_take (i := 22) (v := ?_) rfl rfl (by kernel_rfl) (by kernel_rfl) (by kernel_rfl) (fun _ _ _ h => h) (by rfl) HB0.out.drew ?_ ?_
  rotate_left
  · intro W' hW'
    go_simp
    try with_reducible rfl
  simp only [Act.put, List.setIfInBounds_toArray, List.set_cons_zero, List.set_cons_succ]
  refine heldS_take (i := 23) (v := ?_) rfl rfl (by kernel_rfl) (by kernel_rfl) (by kernel_rfl) (fun _ _ _ h => h) (by rfl) HB0.out.drew ?_ ?_
  rotate_left
  · intro W' hW'
    go_simp
    try with_reducible rfl
  simp only [Act.put, List.setIfInBounds_toArray, List.set_cons_zero, List.set_cons_succ]
  refine heldS_take (i := 24) (v := ?_) rfl rfl (by kernel_rfl) (by kernel_rfl) (by kernel_rfl) (fun _ _ _ h => h) (by rfl) HB0.out.drew ?_ ?_
  rotate_left
  · intro W' hW'
    go_simp
    try with_reducible rfl
  simp only [Act.put, List.setIfInBounds_toArray, List.set_cons_zero, List.set_cons_succ]
  refine heldS_take (i := 25) (v := ?_) rfl rfl (by kernel_rfl) (by kernel_rfl) (by kernel_rfl) (fun _ _ _ h => h) (by rfl) HB0.out.drew ?_ ?_
  rotate_left
  · intro W' hW'
    go_simp
    try with_reducible rfl
  simp only [Act.put, List.setIfInBounds_toArray, List.set_cons_zero, List.set_cons_succ]
  refine heldS_take (i := 26) (v := ?_) rfl rfl (by kernel_rfl) (by kernel_rfl) (by kernel_rfl) (fun _ _ _ h => h) (by rfl) HB0.out.drew ?_ ?_
  rotate_left
  · intro W' hW'
    go_simp
    try with_reducible rfl
  simp only [Act.put, List.setIfInBounds_toArray, List.set_cons_zero, List.set_cons_succ]
  refine heldS_take (i := 27) (v := ?_) rfl rfl (by kernel_rfl) (by kernel_rfl) (by kernel_rfl) (fun _ _ _ h => h) (by rfl) HB0.out.drew ?_ ?_
  rotate_left
  · intro W' hW'
    have e1 : W'.cell? ⟨a.block, a.off + 1, none⟩ = some (.int .u8 (H : Int)) := (hW'.cell (cell_in HC1.out)).trans HC1.out
    go_simp
    try with_reducible rfl
  simp only [Act.put, List.setIfInBounds_toArray, List.set_cons_zero, List.set_cons_succ]
  refine heldS_take (i := 28) (v := ?_) rfl rfl (by kernel_rfl) (by kernel_rfl) (by kernel_rfl) (fun _ _ _ h => h) (by rfl) HB0.out.drew ?_ ?_
  rotate_left
  · intro W' hW'
    go_simp
    try with_reducible rfl
  simp only [Act.put, List.setIfInBounds_toArray, List.set_cons_zero, List.set_cons_succ]
  refine heldS_take (i := 29) (v := ?_) rfl rfl (by kernel_rfl) (by kernel_rfl) (by kernel_rfl) (fun _ _ _ h => h) (by rfl) HB0.out.drew ?_ ?_
  rotate_left
  · intro W' hW'
    go_simp
    try with_reducible rfl
  simp only [Act.put, List.setIfInBounds_toArray, List.set_cons_zero, List.set_cons_succ]
  refine heldS_take (i := 30) (v := ?_) rfl rfl (by kernel_rfl) (by kernel_rfl) (by kernel_rfl) (fun _ _ _ h => h) (by rfl) HB0.out.drew ?_ ?_
  rotate_left
  · intro W' hW'
    go_simp
    try with_reducible rfl
  simp only [Act.put, List.setIfInBounds_toArray, List.set_cons_zero, List.set_cons_succ]
  refine heldS_take (i := 31) (v := ?_) rfl rfl (by kernel_rfl) (by kernel_rfl) (by kernel_rfl) (fun _ _ _ h => h) (by rfl) HB0.out.drew ?_ ?_
  rotate_left
  · intro W' hW'
    go_simp
    try with_reducible rfl
  simp only [Act.put, List.setIfInBounds_toArray, List.set_cons_zero, List.set_cons_succ]
  refine heldS_take (i := 32) (v := ?_) rfl rfl (by kernel_rfl) (by kernel_rfl) (by kernel_rfl) (fun _ _ _ h => h) (by rfl) HB0.out.drew ?_ ?_
  rotate_left
  · intro W' hW'
    go_simp
    try with_reducible rfl
  simp only [Act.put, List.setIfInBounds_toArray, List.set_cons_zero, List.set_cons_succ]
  refine heldS_take (i := 33) (v := ?_) rfl rfl (by kernel_rfl) (by kernel_rfl) (by kernel_rfl) (fun _ _ _ h => h) (by rfl) HB0.out.drew ?_ ?_
  rotate_left
  · intro W' hW'
    go_simp
    try with_reducible rfl
  simp only [Act.put, List.setIfInBounds_toArray, List.set_cons_zero, List.set_cons_succ]
  refine wpAnyH_done (by kernel_rfl) ?_ _
  obtain ⟨W1, hW1⟩ : ∃ W1, (w.alloc (.cells #[.int .i64 0, .slice none 0 0, .slice none 0 0] 32)).drew = W1 := ⟨_, rfl⟩
  have hcs : Cs W1 w.heap.size 32 [.int .i64 0, .slice none 0 0, .slice none 0 0] := by rw [← hW1]; exact (Cs.new w _ _).drew
  have hb1 : Below w.heap.size w W1 := by rw [← hW1]; exact HB0.out.drew
  change Exit.then _ _ Exit.normal _ ((w.alloc (.cells #[.int .i64 0, .slice none 0 0, .slice none 0 0] 32)).drew)
  rw [hW1]
  clear hW1
  have f0 := hcs.free 0
  have f1 := hcs.free 1
  have f2 := hcs.free 2
  have r0 := hcs.cell 0
  have r1 := hcs.cell 1
  have r2 := hcs.cell 2
  simp only [List.getElem?_cons_succ, List.getElem?_cons_zero] at r0 r1 r2
  go_wp2
  exact bodyPost_ret (v := .tuple #[.agg #[.int .i64 0, .slice none 0 0, .slice none 0 0], .int .i64 2]) (by simp [results, Try.results44, go_sem, r0, r1, r2]) rfl ⟨rfl, ((hb1.setCell (p := ⟨w.heap.size, 0, none⟩) (Nat.le_refl _) _).setCell (p := ⟨w.heap.size, 1, none⟩) (Nat.le_refl _) _).setCell (p := ⟨w.heap.size, 2, none⟩) (Nat.le_refl _) _⟩

def Ph1 (b : Nat) (z0 : Int) (zs : List Int) (k : Nat) (wr : World) : Prop := ∃ B c2, Cs wr b 32 [.int .i64 z0, .slice B k c2, .slice none 0 0] ∧ wr.ownsRow (b + 1) 22 1 (.slice B k c2) k (wv (wordsAt zs 2 k))
def Ph2 (b : Nat) (z0 : Int) (zs : List Int) (j : Nat) (wr : World) : Prop := ∃ g c2 B c3 base, Cs wr b 32 [.int .i64 z0, .slice (some ⟨g, 0, none⟩) 18 c2, .slice B j c3] ∧ wr.ownsRow (b + 1) 22 1 (.slice (some ⟨g, 0, none⟩) 18 c2) 18 (wv (wordsAt zs 2 18)) ∧
  g < base ∧ b < base ∧ base ≤ wr.heap.size ∧ wr.ownsRow base 22 1 (.slice B j c3) j (wv (wordsAt zs 146 j))
theorem ph_18 {b : Nat} {z0 : Int} {zs : List Int} {wr : World} (h : Ph1 b z0 zs 18 wr) : Ph2 b z0 zs 0 wr := by
  obtain ⟨B, c2, hC, hO⟩ := h
  obtain ⟨g, rfl, h1, h2, h3⟩ := own_cap hO (by decide)
  exact ⟨g, c2, none, 0, wr.heap.size, hC, hO, h3, hC.lt, Nat.le_refl _, World.ownsRow_nil _ _ _ _⟩
def PhR (b : Nat) (z0 : Int) (zs : List Int) (k : Nat) (wr : World) : Prop := (k < 18 ∧ Ph1 b z0 zs k wr) ∨ ∃ j, k = 18 + j ∧ Ph2 b z0 zs j wr
theorem phR_first {b : Nat} {z0 : Int} {zs : List Int} {wr : World} {k : Nat} (hk : k ≤ 18) (h : Ph1 b z0 zs k wr) : PhR b z0 zs k wr := by
  rcases Nat.lt_or_ge k 18 with h1 | h1
  · exact .inl ⟨h1, h⟩
  · obtain rfl : k = 18 := by omega
    exact .inr ⟨0, rfl, ph_18 h⟩
theorem sz_k (k L : Nat) (h : k ≤ 30) (hL : 2 + 8 * k = L) : wrap64 (8 * (k : Int)) = 8 * (k : Int) ∧ wrap64 (2 + 8 * (k : Int)) = (L : Int) ∧ wrap64 (10 + 8 * (k : Int)) = ((L + 8 : Nat) : Int) := by
  subst hL
  refine ⟨?_, ?_, ?_⟩ <;> (unfold wrap64; omega)
theorem sz_h (H : Nat) (h : H ≤ 4) : wrap64 (H : Int) = (H : Int) := by unfold wrap64; omega
theorem leafB_yes {H : Nat} {l : Int} (h : H ≤ 4) (h0 : 0 ≤ l) (hl : l < ((2 ^ H : Nat) : Int)) : leafB (H : Int) l = true := by
  have e : ((2 ^ H : Nat) : Int) = (2 : Int) ^ H := by simp
  rw [e] at hl
  unfold leafB hgtB
  simp only [Int.toNat_natCast, Bool.and_eq_true, decide_eq_true_eq]
  exact ⟨⟨⟨by omega, by omega⟩, h0⟩, hl⟩
theorem leafB_no {H : Nat} {l : Int} (hl : ¬ l < ((2 ^ H : Nat) : Int)) : leafB (H : Int) l = false := by
  have e : ((2 ^ H : Nat) : Int) = (2 : Int) ^ H := by simp
  rw [e] at hl
  unfold leafB
  simp only [Int.toNat_natCast, decide_eq_false hl, Bool.and_false]
theorem leafB_hi {H : Nat} {l : Int} (h : ¬ H ≤ 4) : leafB (H : Int) l = false := by
  have h' : ¬ ((H : Int) ≤ 4) := by omega
  unfold leafB hgtB
  simp only [decide_eq_false h', Bool.and_false, Bool.false_and]
theorem wordAt_sh (zs : List Int) (j : Nat) : wordAt zs 2 (18 + j) = wordAt zs 146 j := by
  unfold wordAt
  rw [show 2 + 8 * (18 + j) = 146 + 8 * j by omega]
theorem wordsAt_succ (zs : List Int) (o k : Nat) : wordsAt zs o k ++ [wordAt zs o k] = wordsAt zs o (k + 1) := by simp [wordsAt, List.range_succ]
set_option maxHeartbeats 4000000 in
theorem decR_ok (a : Addr) (n c : Nat) (z0 : Int) (H : Nat) (w : World) (_ : 2 ≤ n) (hc0 : w.cell? a = some (.int .u8 z0)) (hc1 : w.cell? (a.add 1) = some (.int .u8 (H : Int))) (h0 : 0 ≤ z0 ∧ z0 ≤ 255) (h1 : 0 ≤ (H : Int) ∧ (H : Int) ≤ 255) (hH : H ≤ 4) (hl : z0 < ((2 ^ H : Nat) : Int)) (hq : n = 146 + 8 * H) (hc : n ≤ c) (zs : List Int) (hz : Bytes w (some a) n zs) :
    Calls Try.prog 44 #[.slice (some a) n c] w fun e w' => ∃ A c B c2, e = .returned (.tuple #[.agg #[.int .i64 z0, .slice A 18 c, .slice B H c2], .int .i64 0]) ∧ Ws w' A 18 (wordsAt zs 2 18) ∧ Ws w' B H (wordsAt zs 146 H) ∧ Below w.heap.size w w' := by
  have hw0 : wrap64 z0 = z0 := by unfold wrap64; omega
  have hw1 : wrap64 (H : Int) = (H : Int) := by unfold wrap64; omega
  have hi0 : IntKind.i64.wrap z0 = z0 := by rw [IntKind.wrap_i64]; omega
  have hi1 : IntKind.i64.wrap (H : Int) = (H : Int) := by rw [IntKind.wrap_i64]; omega
  have hn0 : (0 : Int) < (n : Int) := by omega
  have hn1 : (1 : Int) < (n : Int) := by omega
  have hn0' : 0 < n := by omega
  have hn1' : 1 < n := by omega
  have hd2 : decide ((n : Int) < 2) = false := by simp; omega
  have HC0 := Lib.hid hc0
  have HC1 := Lib.hid hc1
  have hp := pow_le H hH
  have hwr := wrap_pow H hH
  obtain ⟨z1, z2, z3, z4⟩ := sz_small H hH
  obtain ⟨N, hN⟩ : ∃ N : Nat, 2 ^ H = N := ⟨_, rfl⟩
  rw [hN] at hp hwr hl
  have hwi : IntKind.i64.wrap ((2 : Int) ^ H) = (N : Int) := (wrap_i64_64 _).trans hwr
  have y1 := (wrap_i64_64 _).trans z1
  have y2 := (wrap_i64_64 _).trans z2
  have y3 := (wrap_i64_64 _).trans z3
  have hH63 : ¬ (63 : Int) < (H : Int) := by omega
  have hmH : min H 64 = H := by omega
  have hd4 : decide (4 < (H : Int)) = false := by simp; omega
  clear hc0 hc1
  have hdl : decide ((N : Int) ≤ z0) = false := by simp; omega
  have hne : ((n : Int) != (2 + 8 * (18 + (H : Int)))) = false := by simp; omega
  have HZ := Lib.hid hz
  have HQ := Lib.hid hq
  have hcn : 146 + 8 * H ≤ c := by omega
  clear hz hq
  have HB0 := Lib.hid ((Below.refl w.heap.size w).alloc (Nat.le_refl _) (.cells #[.int .i64 0, .slice none 0 0, .slice none 0 0] 32))
  go_enter Try.func44, Try.ntmps44
  go_wp2_with fail
  refine wp_region_held (S := fun W => Below w.heap.size w W) (by kernel_rfl) ?_
  refine heldS_take (i := 0) (v := ?_) rfl rfl (by kernel_rfl) (by kernel_rfl) (by kernel_rfl) (fun _ _ _ h => h) (by rfl) HB0.out.drew ?_ ?_
  rotate_left
  · intro W' hW'
    go_simp
    try with_reducible rfl
  simp only [Act.put, List.setIfInBounds_toArray, List.set_cons_zero, List.set_cons_succ]
  refine heldS_take (i := 1) (v := ?_) rfl rfl (by kernel_rfl) (by kernel_rfl) (by kernel_rfl) (fun _ _ _ h => h) (by rfl) HB0.out.drew ?_ ?_
  rotate_left
  · intro W' hW'
    go_simp
    try with_reducible rfl
  simp only [Act.put, List.setIfInBounds_toArray, List.set_cons_zero, List.set_cons_succ]
  refine heldS_take (i := 2) (v := ?_) rfl rfl (by kernel_rfl) (by kernel_rfl) (by kernel_rfl) (fun _ _ _ h => h) (by rfl) HB0.out.drew ?_ ?_
  rotate_left
  · intro W' hW'
    go_simp
    try with_reducible rfl
  simp only [Act.put, List.setIfInBounds_toArray, List.set_cons_zero, List.set_cons_succ]
  refine heldS_take (i := 3) (v := ?_) rfl rfl (by kernel_rfl) (by kernel_rfl) (by kernel_rfl) (fun _ _ _ h => h) (by rfl) HB0.out.drew ?_ ?_
  rotate_left
  · intro W' hW'
    go_simp
    try with_reducible rfl
  simp only [Act.put, List.setIfInBounds_toArray, List.set_cons_zero, List.set_cons_succ]
  refine heldS_take (i := 4) (v := ?_) rfl rfl (by kernel_rfl) (by kernel_rfl) (by kernel_rfl) (fun _ _ _ h => h) (by rfl) HB0.out.drew ?_ ?_
  rotate_left
  · intro W' hW'
    go_simp
    try with_reducible rfl
  simp only [Act.put, List.setIfInBounds_toArray, List.set_cons_zero, List.set_cons_succ]
  refine heldS_take (i := 5) (v := ?_) rfl rfl (by kernel_rfl) (by kernel_rfl) (by kernel_rfl) (fun _ _ _ h => h) (by rfl) HB0.out.drew ?_ ?_
  rotate_left
  · intro W' hW'
    go_simp
    try with_reducible rfl
  simp only [Act.put, List.setIfInBounds_toArray, List.set_cons_zero, List.set_cons_succ]
  refine heldS_take (i := 6) (v := ?_) rfl rfl (by kernel_rfl) (by kernel_rfl) (by kernel_rfl) (fun _ _ _ h => h) (by rfl) HB0.out.drew ?_ ?_
  rotate_left
  · intro W' hW'
    have e1 : W'.cell? ⟨a.block, a.off + 1, none⟩ = some (.int .u8 (H : Int)) := (hW'.cell (cell_in HC1.out)).trans HC1.out
    go_simp
    try with_reducible rfl
  simp only [Act.put, List.setIfInBounds_toArray, List.set_cons_zero, List.set_cons_succ]
  refine heldS_take (i := 7) (v := ?_) rfl rfl (by kernel_rfl) (by kernel_rfl) (by kernel_rfl) (fun _ _ _ h => h) (by rfl) HB0.out.drew ?_ ?_
  rotate_left
  · intro W' hW'
    go_simp
    try with_reducible rfl
  simp only [Act.put, List.setIfInBounds_toArray, List.set_cons_zero, List.set_cons_succ]
  refine heldS_take (i := 8) (v := ?_) rfl rfl (by kernel_rfl) (by kernel_rfl) (by kernel_rfl) (fun _ _ _ h => h) (by rfl) HB0.out.drew ?_ ?_
  rotate_left
  · intro W' hW'
    go_simp
    try with_reducible rfl
  simp only [Act.put, List.setIfInBounds_toArray, List.set_cons_zero, List.set_cons_succ]
  refine heldS_take (i := 9) (v := ?_) rfl rfl (by kernel_rfl) (by kernel_rfl) (by kernel_rfl) (fun _ _ _ h => h) (by rfl) HB0.out.drew ?_ ?_
  rotate_left
  · intro W' hW'
    go_simp
    try with_reducible rfl
  simp only [Act.put, List.setIfInBounds_toArray, List.set_cons_zero, List.set_cons_succ]
  refine heldS_take (i := 10) (v := ?_) rfl rfl (by kernel_rfl) (by kernel_rfl) (by kernel_rfl) (fun _ _ _ h => h) (by rfl) HB0.out.drew ?_ ?_
  rotate_left
  · intro W' hW'
    go_simp
    try with_reducible rfl
  simp only [Act.put, List.setIfInBounds_toArray, List.set_cons_zero, List.set_cons_succ]
  refine heldS_take (i := 11) (v := ?_) rfl rfl (by kernel_rfl) (by kernel_rfl) (by kernel_rfl) (fun _ _ _ h => h) (by rfl) HB0.out.drew ?_ ?_
  rotate_left
  · intro W' hW'
    go_simp
    try with_reducible rfl
  simp only [Act.put, List.setIfInBounds_toArray, List.set_cons_zero, List.set_cons_succ]
  refine heldS_take (i := 12) (v := ?_) rfl rfl (by kernel_rfl) (by kernel_rfl) (by kernel_rfl) (fun _ _ _ h => h) (by rfl) HB0.out.drew ?_ ?_
  rotate_left
  · intro W' hW'
    go_simp
    try with_reducible rfl
  simp only [Act.put, List.setIfInBounds_toArray, List.set_cons_zero, List.set_cons_succ]
  refine heldS_take (i := 13) (v := ?_) rfl rfl (by kernel_rfl) (by kernel_rfl) (by kernel_rfl) (fun _ _ _ h => h) (by rfl) HB0.out.drew ?_ ?_
  rotate_left
  · intro W' hW'
    have e0 := (hW'.cell (cell_in HC0.out)).trans HC0.out
    go_simp
    try with_reducible rfl
  simp only [Act.put, List.setIfInBounds_toArray, List.set_cons_zero, List.set_cons_succ]
  refine heldS_take (i := 14) (v := ?_) rfl rfl (by kernel_rfl) (by kernel_rfl) (by kernel_rfl) (fun _ _ _ h => h) (by rfl) HB0.out.drew ?_ ?_
  rotate_left
  · intro W' hW'
    go_simp
    try with_reducible rfl
  simp only [Act.put, List.setIfInBounds_toArray, List.set_cons_zero, List.set_cons_succ]
  refine heldS_take (i := 15) (v := ?_) rfl rfl (by kernel_rfl) (by kernel_rfl) (by kernel_rfl) (fun _ _ _ h => h) (by rfl) HB0.out.drew ?_ ?_
  rotate_left
  · intro W' hW'
    go_simp
    try with_reducible rfl
  simp only [Act.put, List.setIfInBounds_toArray, List.set_cons_zero, List.set_cons_succ]
  refine heldS_take (i := 16) (v := ?_) rfl rfl (by kernel_rfl) (by kernel_rfl) (by kernel_rfl) (fun _ _ _ h => h) (by rfl) HB0.out.drew ?_ ?_
  rotate_left
  · intro W' hW'
    go_simp
    try with_reducible rfl
  simp only [Act.put, List.setIfInBounds_toArray, List.set_cons_zero, List.set_cons_succ]
  refine heldS_take (i := 17) (v := ?_) rfl rfl (by kernel_rfl) (by kernel_rfl) (by kernel_rfl) (fun _ _ _ h => h) (by rfl) HB0.out.drew ?_ ?_
  rotate_left
  · intro W' hW'
    have e1 : W'.cell? ⟨a.block, a.off + 1, none⟩ = some (.int .u8 (H : Int)) := (hW'.cell (cell_in HC1.out)).trans HC1.out
    go_simp
    try with_reducible rfl
  simp only [Act.put, List.setIfInBounds_toArray, List.set_cons_zero, List.set_cons_succ]
  refine heldS_take (i := 18) (v := ?_) rfl rfl (by kernel_rfl) (by kernel_rfl) (by kernel_rfl) (fun _ _ _ h => h) (by rfl) HB0.out.drew ?_ ?_
  rotate_left
  · intro W' hW'
    go_simp
    try with_reducible rfl
  simp only [Act.put, List.setIfInBounds_toArray, List.set_cons_zero, List.set_cons_succ]
  refine heldS_take (i := 19) (v := ?_) rfl rfl (by kernel_rfl) (by kernel_rfl) (by kernel_rfl) (fun _ _ _ h => h) (by rfl) HB0.out.drew ?_ ?_
  rotate_left
  · intro W' hW'
    go_simp
    try with_reducible rfl
  simp only [Act.put, List.setIfInBounds_toArray, List.set_cons_zero, List.set_cons_succ]
  refine heldS_take (i := 20) (v := ?_) rfl rfl (by kernel_rfl) (by kernel_rfl) (by kernel_rfl) (fun _ _ _ h => h) (by rfl) HB0.out.drew ?_ ?_
  rotate_left
  · intro W' hW'
    go_simp
    try with_reducible rfl
  simp only [Act.put, List.setIfInBounds_toArray, List.set_cons_zero, List.set_cons_succ]
  refine heldS_take (i := 21) (v := ?_) rfl rfl (by kernel_rfl) (by kernel_rfl) (by kernel_rfl) (fun _ _ _ h => h) (by rfl) HB0.out.drew ?_ ?_
  rotate_left
  · intro W' hW'
    go_simp
    try with_reducible rfl
  simp only [Act.put, List.setIfInBounds_toArray, List.set_cons_zero, List.set_cons_succ]
  refine heldS_take (i := 22) (v := ?_) rfl rfl (by kernel_rfl) (by kernel_rfl) (by kernel_rfl) (fun _ _ _ h => h) (by rfl) HB0.out.drew ?_ ?_
  rotate_left
  · intro W' hW'
    go_simp
    try with_reducible rfl
  simp only [Act.put, List.setIfInBounds_toArray, List.set_cons_zero, List.set_cons_succ]
  refine heldS_take (i := 23) (v := ?_) rfl rfl (by kernel_rfl) (by kernel_rfl) (by kernel_rfl) (fun _ _ _ h => h) (by rfl) HB0.out.drew ?_ ?_
  rotate_left
  · intro W' hW'
    go_simp
    try with_reducible rfl
  simp only [Act.put, List.setIfInBounds_toArray, List.set_cons_zero, List.set_cons_succ]
  refine heldS_take (i := 24) (v := ?_) rfl rfl (by kernel_rfl) (by kernel_rfl) (by kernel_rfl) (fun _ _ _ h => h) (by rfl) HB0.out.drew ?_ ?_
  rotate_left
  · intro W' hW'
    go_simp
    try with_reducible rfl
  simp only [Act.put, List.setIfInBounds_toArray, List.set_cons_zero, List.set_cons_succ]
  refine heldS_take (i := 25) (v := ?_) rfl rfl (by kernel_rfl) (by kernel_rfl) (by kernel_rfl) (fun _ _ _ h => h) (by rfl) HB0.out.drew ?_ ?_
  rotate_left
  · intro W' hW'
    go_simp
    try with_reducible rfl
  simp only [Act.put, List.setIfInBounds_toArray, List.set_cons_zero, List.set_cons_succ]
  refine heldS_take (i := 26) (v := ?_) rfl rfl (by kernel_rfl) (by kernel_rfl) (by kernel_rfl) (fun _ _ _ h => h) (by rfl) HB0.out.drew ?_ ?_
  rotate_left
  · intro W' hW'
    go_simp
    try with_reducible rfl
  simp only [Act.put, List.setIfInBounds_toArray, List.set_cons_zero, List.set_cons_succ]
  refine heldS_take (i := 27) (v := ?_) rfl rfl (by kernel_rfl) (by kernel_rfl) (by kernel_rfl) (fun _ _ _ h => h) (by rfl) HB0.out.drew ?_ ?_
  rotate_left
  · intro W' hW'
    have e1 : W'.cell? ⟨a.block, a.off + 1, none⟩ = some (.int .u8 (H : Int)) := (hW'.cell (cell_in HC1.out)).trans HC1.out
    go_simp
    try with_reducible rfl
  simp only [Act.put, List.setIfInBounds_toArray, List.set_cons_zero, List.set_cons_succ]
  refine heldS_take (i := 28) (v := ?_) rfl rfl (by kernel_rfl) (by kernel_rfl) (by kernel_rfl) (fun _ _ _ h => h) (by rfl) HB0.out.drew ?_ ?_
  rotate_left
  · intro W' hW'
    go_simp
    try with_reducible rfl
  simp only [Act.put, List.setIfInBounds_toArray, List.set_cons_zero, List.set_cons_succ]
  refine heldS_take (i := 29) (v := ?_) rfl rfl (by kernel_rfl) (by kernel_rfl) (by kernel_rfl) (fun _ _ _ h => h) (by rfl) HB0.out.drew ?_ ?_
  rotate_left
  · intro W' hW'
    go_simp
    try with_reducible rfl
  simp only [Act.put, List.setIfInBounds_toArray, List.set_cons_zero, List.set_cons_succ]
  refine heldS_take (i := 30) (v := ?_) rfl rfl (by kernel_rfl) (by kernel_rfl) (by kernel_rfl) (fun _ _ _ h => h) (by rfl) HB0.out.drew ?_ ?_
  rotate_left
  · intro W' hW'
    go_simp
    try with_reducible rfl
  simp only [Act.put, List.setIfInBounds_toArray, List.set_cons_zero, List.set_cons_succ]
  refine heldS_take (i := 31) (v := ?_) rfl rfl (by kernel_rfl) (by kernel_rfl) (by kernel_rfl) (fun _ _ _ h => h) (by rfl) HB0.out.drew ?_ ?_
  rotate_left
  · intro W' hW'
    go_simp
    try with_reducible rfl
  simp only [Act.put, List.setIfInBounds_toArray, List.set_cons_zero, List.set_cons_succ]
  refine heldS_take (i := 32) (v := ?_) rfl rfl (by kernel_rfl) (by kernel_rfl) (by kernel_rfl) (fun _ _ _ h => h) (by rfl) HB0.out.drew ?_ ?_
  rotate_left
  · intro W' hW'
    go_simp
    try with_reducible rfl
  simp only [Act.put, List.setIfInBounds_toArray, List.set_cons_zero, List.set_cons_succ]
  refine heldS_take (i := 33) (v := ?_) rfl rfl (by kernel_rfl) (by kernel_rfl) (by kernel_rfl) (fun _ _ _ h => h) (by rfl) HB0.out.drew ?_ ?_
  rotate_left
  · intro W' hW'
    go_simp
    try with_reducible rfl
  simp only [Act.put, List.setIfInBounds_toArray, List.set_cons_zero, List.set_cons_succ]
  refine wpAnyH_done (by kernel_rfl) ?_ _
  change Exit.then _ _ Exit.normal _ ((w.alloc (.cells #[.int .i64 0, .slice none 0 0, .slice none 0 0] 32)).drew)
  obtain ⟨W1, hW1⟩ : ∃ W1, (w.alloc (.cells #[.int .i64 0, .slice none 0 0, .slice none 0 0] 32)).drew = W1 := ⟨_, rfl⟩
  have hcs : Cs W1 w.heap.size 32 [.int .i64 0, .slice none 0 0, .slice none 0 0] := by rw [← hW1]; exact (Cs.new w _ _).drew
  have hb1 : Below w.heap.size w W1 := by rw [← hW1]; exact HB0.out.drew
  rw [hW1]
  clear hW1
  have hs1 := hcs.lt
  have HZ1 := Lib.hid (HZ.out.below hb1)
  have HC1' := Lib.hid ((hb1.cell (cell_in HC1.out)).trans HC1.out)
  have e0 := (hb1.cell (cell_in HC0.out)).trans HC0.out
  have HCS := Lib.hid hcs
  have HB1 := Lib.hid hb1
  clear hcs hb1
  go_wp2
  have hwH := sz_h H hH
  clear e0 hwr hwi y1 y2 y3 hw0 hw1 hi0 hi1 hd2 hdl hne z2 z3 z4 hH63 hmH hd4
  go_loopw [5] (fun i wr => ∃ k : Nat, i = .int .i64 k ∧ k ≤ 18 + H ∧ PhR W1.heap.size z0 zs k wr ∧ Below W1.heap.size W1 wr) (fun i _ => 18 + H - (intOf i).toNat)
  case atStart => exact ⟨0, rfl, Nat.zero_le _, .inl ⟨by decide, none, 0, Cs.new W1 _ _, World.ownsRow_nil _ _ _ _⟩, (Below.refl _ _).alloc (Nat.le_refl _) _⟩
  case round =>
    obtain ⟨k, rfl, hk, hR, hB⟩ := hrel
    have HB := Lib.hid hB
    have HR := Lib.hid hR
    have hsz := hB.size
    have e1 : wr.cell? ⟨a.block, a.off + 1, none⟩ = some (.int .u8 (H : Int)) := (hB.cell (cell_in HC1'.out)).trans HC1'.out
    have HZw := Lib.hid (HZ1.out.below hB)
    clear hB hR
    by_cases hkh : k < 18 + H
    · have hkI : (k : Int) < 18 + (H : Int) := by omega
      obtain ⟨L, hL⟩ : ∃ L, 2 + 8 * k = L := ⟨_, rfl⟩
      obtain ⟨hw8, hwL, hwR⟩ := sz_k k L (by omega) hL
      have HLL := Lib.hid hL
      have hLc : L + 8 ≤ c := by omega
      have hLcI : (L : Int) + 8 ≤ (c : Int) := by omega
      clear hL
      go_wp2_with fail
      have hd := HZw.out.drop (cap := c) (2 + 8 * k) (by have := HQ.out; omega) (by omega)
      rw [if_neg (by have := HQ.out; omega)] at hd
      have he := hd.take 8 (by have := HQ.out; omega)
      rw [show 10 + 8 * k - (2 + 8 * k) = 8 by omega]
      refine (wordR_any _ 8 _ _ wr he rfl).mono ?_
      rintro e w' ⟨rfl, rfl⟩
      obtain ⟨x, hx⟩ : ∃ x, rdF ((zs.drop (2 + 8 * k)).take 8) 8 = x := ⟨_, rfl⟩
      have HX : Hid (wordAt zs 2 k = x) := Lib.hid hx
      rw [hx]
      clear hd he hx hw8 hwL hwR
      by_cases hk18 : k < 18
      · have hkI2 : (k : Int) < 18 := by omega
        obtain ⟨B, c2, hC, hO⟩ : Ph1 W1.heap.size z0 zs k wr := by
          rcases HR.out with ⟨_, h⟩ | ⟨j, hj, _⟩
          · exact h
          · omega
        have p1 := hC.cell 1
        simp only [List.getElem?_cons_succ, List.getElem?_cons_zero] at p1
        have HC := Lib.hid (hC.grow (.cells #[.int .u64 (val x)] 22))
        have HO := Lib.hid (hO.alloc (.cells #[.int .u64 (val x)] 22))
        have hlt := hC.lt
        clear hC hO
        go_wp2_with (at_builtin; refine app_words rfl _ _ rfl (W1.heap.size + 1) (.slice B k c2) k (wordsAt zs 2 k) (some ⟨wr.heap.size, 0, none⟩) 1 1 [x] HO.out rfl (Ws.one wr _) rfl (by omega) (by simp; omega) ?_)
        intro v4 w4 ho4 hb4
        obtain ⟨B4, c4, rfl, _⟩ := own_words ho4
        rw [← HX.out, wordsAt_succ] at ho4
        have hc4 := HC.out.below hb4 (by omega)
        have f4 := hc4.free 1
        have c4a := hc4.cell 1
        simp only [List.getElem?_cons_succ, List.getElem?_cons_zero] at c4a
        have HC4 := Lib.hid (hc4.set_ 1 (.slice B4 (k + 1) c4))
        have HO4 := Lib.hid (ownsRow_setCell_below ho4 (a := ⟨W1.heap.size, 1, none⟩) (by simp) (.slice B4 (k + 1) c4))
        have HB4 := Lib.hid (((HB.out.alloc hsz (.cells #[.int .u64 (val x)] 22)).trans (hb4.mono (by omega))).setCell (p := ⟨W1.heap.size, 1, none⟩) (Nat.le_refl _) (.slice B4 (k + 1) c4))
        clear hc4 ho4 hb4 p1
        go_wp2
        go_roundw
        case rel => exact ⟨k + 1, by go_num, by omega, phR_first hk18 ⟨B4, c4, HC4.out, HO4.out⟩, HB4.out⟩
        case measure => (simp [intOf] <;> omega)
      · have hkI2 : ¬ (k : Int) < 18 := by omega
        obtain ⟨j, hj, g, c2, B, c3, base, hC, hO, hg, hbb, hbs, hP⟩ : ∃ j, k = 18 + j ∧ Ph2 W1.heap.size z0 zs j wr := by
          rcases HR.out with ⟨h, _⟩ | h
          · omega
          · exact h
        have HJ := Lib.hid hj
        have hjk : j ≤ 30 := by omega
        have p2 := hC.cell 2
        simp only [List.getElem?_cons_succ, List.getElem?_cons_zero] at p2
        have HC := Lib.hid (hC.grow (.cells #[.int .u64 (val x)] 22))
        have HO := Lib.hid (hO.alloc (.cells #[.int .u64 (val x)] 22))
        have HP := Lib.hid (hP.alloc (.cells #[.int .u64 (val x)] 22))
        have HXj : Hid (wordAt zs 146 j = x) := Lib.hid (by rw [← wordAt_sh, ← hj]; exact HX.out)
        clear hC hO hP hj
        go_wp2_with (at_builtin; refine app_words rfl _ _ rfl base (.slice B j c3) j (wordsAt zs 146 j) (some ⟨wr.heap.size, 0, none⟩) 1 1 [x] HP.out rfl (Ws.one wr _) rfl (by omega) (by simp; omega) ?_)
        intro v4 w4 ho4 hb4
        obtain ⟨B4, c4, rfl, _⟩ := own_words ho4
        rw [← HXj.out, wordsAt_succ] at ho4
        have hc4 := HC.out.below hb4 (by omega)
        have ho1 := own_far HO.out hb4 hg
        have f4 := hc4.free 2
        have c4a := hc4.cell 2
        simp only [List.getElem?_cons_succ, List.getElem?_cons_zero] at c4a
        have HC4 := Lib.hid (hc4.set_ 2 (.slice B4 (j + 1) c4))
        have HP4 := Lib.hid (ownsRow_setCell_below ho4 (a := ⟨W1.heap.size, 2, none⟩) (by simpa using hbb) (.slice B4 (j + 1) c4))
        have HO4 := Lib.hid (ownsRow_setCell_below ho1 (a := ⟨W1.heap.size, 2, none⟩) (by simp) (.slice B4 (j + 1) c4))
        have HB4 := Lib.hid (((HB.out.alloc hsz (.cells #[.int .u64 (val x)] 22)).trans (hb4.mono (by omega))).setCell (p := ⟨W1.heap.size, 2, none⟩) (Nat.le_refl _) (.slice B4 (j + 1) c4))
        have hbs4 : base ≤ w4.heap.size := Nat.le_trans (by simp; omega) hb4.size
        clear hc4 ho1 ho4 hb4 p2
        go_wp2
        go_roundw
        case rel => exact ⟨k + 1, by go_num, by omega, .inr ⟨j + 1, by have := HJ.out; omega, g, c2, B4, c4, base, HC4.out, HO4.out, hg, hbb, by simpa using hbs4, HP4.out⟩, HB4.out⟩
        case measure => (simp [intOf] <;> omega)
    · have hk' : k = 18 + H := by omega
      subst hk'
      obtain ⟨g, c2, B, c3, base, hC, hO, hg, hbb, hbs, hP⟩ : Ph2 W1.heap.size z0 zs H wr := by
        rcases HR.out with ⟨h, _⟩ | ⟨j, hj, h⟩
        · omega
        · obtain rfl : j = H := by omega
          exact h
      have q0 := hC.cell 0
      have q1 := hC.cell 1
      have q2 := hC.cell 2
      have hC8 := HCS.out.below HB.out hs1
      have r0 := hC8.cell 0
      have r1 := hC8.cell 1
      have r2 := hC8.cell 2
      have f0 := hC8.free 0
      have f1 := hC8.free 1
      have f2 := hC8.free 2
      simp only [List.getElem?_cons_succ, List.getElem?_cons_zero] at q0 q1 q2 r0 r1 r2
      have HO8 := Lib.hid hO
      have HP8 := Lib.hid hP
      clear hC8 hC hO hP
      have hkI : ¬ ((18 + H : Nat) : Int) < 18 + (H : Int) := by omega
      have hkI' : ¬ (18 + (H : Int)) < 18 + (H : Int) := by omega
      go_wp2
      have hf : ∀ (W : World) (base : Nat) (v : Value) (n : Nat) (xs : List Value), W.ownsRow base 22 1 v n xs → w.heap.size < base → (((W.setCell ⟨w.heap.size, 0, none⟩ (.int .i64 z0)).setCell ⟨w.heap.size, 1, none⟩ (.slice (some ⟨g, 0, none⟩) 18 c2)).setCell ⟨w.heap.size, 2, none⟩ (.slice B H c3)).ownsRow base 22 1 v n xs := fun W base v n xs h hb =>
        ownsRow_setCell_below (ownsRow_setCell_below (ownsRow_setCell_below h (a := ⟨w.heap.size, 0, none⟩) hb _) (a := ⟨w.heap.size, 1, none⟩) hb _) (a := ⟨w.heap.size, 2, none⟩) hb _
      obtain ⟨A', c', e', hWA⟩ := own_words (hf _ _ _ _ _ HO8.out (by omega))
      cases e'
      obtain ⟨B', c', e', hWB⟩ := own_words (hf _ _ _ _ _ HP8.out (by omega))
      cases e'
      refine bodyPost_ret (v := .tuple #[.agg #[.int .i64 z0, .slice (some ⟨g, 0, none⟩) 18 c2, .slice B H c3], .int .i64 0]) (by simp [results, Try.results44, go_sem, r0, r1, r2]) rfl ⟨_, c2, B, ⟨c3, rfl⟩, hWA, hWB, ?_⟩
      exact (((HB1.out.trans (HB.out.mono (Nat.le_of_lt hs1))).setCell (p := ⟨w.heap.size, 0, none⟩) (Nat.le_refl _) _).setCell (p := ⟨w.heap.size, 1, none⟩) (Nat.le_refl _) _).setCell (p := ⟨w.heap.size, 2, none⟩) (Nat.le_refl _) _
theorem decR_all (A : Option Addr) (n c : Nat) (zs : List Int) (w : World) (hB : Bytes w A n zs) (hc : n ≤ c) :
    Calls Try.prog 44 #[.slice A n c] w (DecSP zs w) := by
  have hl := hB.len
  by_cases hn : n < 2
  · exact (decR_len A n c w hn).mono fun e w' h => decSP_no (by unfold dsB; simp; omega) h
  · obtain ⟨a, rfl, h0⟩ := hB.at_ 0 (by omega)
    obtain ⟨a', e', h1⟩ := hB.at_ 1 (by omega)
    cases e'
    have ha : a.add 0 = a := by unfold Addr.add; rfl
    rw [ha] at h0
    have z0 := hB.byte 0 (by omega)
    have z1 := hB.byte 1 (by omega)
    obtain ⟨H, hH⟩ := Int.eq_ofNat_of_zero_le z1.1
    rw [hH] at h1 z1
    by_cases h4 : H ≤ 4
    · by_cases hl2 : zs.getD 0 0 < ((2 ^ H : Nat) : Int)
      · have hlb : leafB (zs.getD 1 0) (zs.getD 0 0) = true := by
          rw [hH]; exact leafB_yes h4 z0.1 hl2
        by_cases hq : n = 146 + 8 * H
        · have hds : dsB zs = true := by unfold dsB; rw [hlb, hH]; simp; omega
          refine (decR_ok a n c _ H w (by omega) h0 h1 z0 z1 h4 hl2 hq hc zs hB).mono ?_
          rintro e w' ⟨A, c, B, c2, he, hA, hP, hb⟩
          unfold DecSP dsL dsE dsN dsM dsC dsP
          simp only [hds, if_true, hH, Int.toNat_natCast]
          exact ⟨A, c, B, c2, he, hA, hP, hb⟩
        · have hds : dsB zs = false := by unfold dsB; rw [hlb, hH]; simp; omega
          exact (decR_size a n c _ H w (by omega) h0 h1 z0 z1 h4 hl2 hq).mono fun e w' h => decSP_no hds h
      · have hlb : leafB (zs.getD 1 0) (zs.getD 0 0) = false := by
          rw [hH]; exact leafB_no hl2
        exact (decR_leaf a n c _ H w (by omega) h0 h1 z0 z1 h4 (by omega)).mono fun e w' h => decSP_no (by unfold dsB; rw [hlb]; simp) h
    · have hlb : leafB (zs.getD 1 0) (zs.getD 0 0) = false := by
        rw [hH]; exact leafB_hi h4
      exact (decR_hgt a n c _ _ w (by omega) h0 h1 z0 z1 (by omega)).mono fun e w' h => decSP_no (by unfold dsB; rw [hlb]; simp) h

theorem row_two {base : Nat} (w : World) (x y : Int) (hb : base ≤ w.heap.size) : Row (w.alloc (.cells #[.int .u8 x, .int .u8 y] 5)) base (.slice (some ⟨w.heap.size, 0, none⟩) 2 2) 2 [x, y] := by
  have hc := Cs.new w 5 [.int .u8 x, .int .u8 y]
  refine ⟨rfl, .inr ⟨w.heap.size, 2, rfl, hb, by simp, Nat.le_refl _, by unfold maxLen; omega, fun j hj => ?_, fun j hj => ⟨?_, hc.free j⟩⟩⟩
  · rcases (by omega : j = 0 ∨ j = 1) with rfl | rfl
    · exact hc.cell 0
    · exact hc.cell 1
  · rcases (by omega : j = 0 ∨ j = 1) with rfl | rfl
    · exact (congrArg Option.isSome (hc.cell 0)).trans rfl
    · exact (congrArg Option.isSome (hc.cell 1)).trans rfl
theorem encSR_hi (l : Int) (A B : Option Addr) (n c h c2 : Nat) (w : World) (hh : 4 < h) :
    Calls Try.prog 42 #[.agg #[.int .i64 l, .slice A n c, .slice B h c2]] w fun e w' => e = .returned (.tuple #[.slice none 0 0, .int .i64 9]) ∧ Below w.heap.size w w' := by
  have h4 : (4 : Int) < (h : Int) := by omega
  go_enter Try.func42, Try.ntmps42
  go_wp2
  go_ret2
  exact ⟨rfl, (Below.refl _ _).alloc (Nat.le_refl _) _⟩
theorem encSR_neg (l : Int) (A B : Option Addr) (n c h c2 : Nat) (w : World) (hh : h ≤ 4) (hl : l < 0) :
    Calls Try.prog 42 #[.agg #[.int .i64 l, .slice A n c, .slice B h c2]] w fun e w' => e = .returned (.tuple #[.slice none 0 0, .int .i64 9]) ∧ Below w.heap.size w w' := by
  have h4 : ¬ (4 : Int) < (h : Int) := by omega
  go_enter Try.func42, Try.ntmps42
  go_wp2
  go_ret2
  exact ⟨rfl, (Below.refl _ _).alloc (Nat.le_refl _) _⟩
theorem encSR_big (l : Int) (A B : Option Addr) (n c h c2 : Nat) (w : World) (hh : h ≤ 4) (hl : 0 ≤ l) (hp : ((2 ^ h : Nat) : Int) ≤ l) :
    Calls Try.prog 42 #[.agg #[.int .i64 l, .slice A n c, .slice B h c2]] w fun e w' => e = .returned (.tuple #[.slice none 0 0, .int .i64 9]) ∧ Below w.heap.size w w' := by
  have h4 : ¬ (4 : Int) < (h : Int) := by omega
  have h63 : ¬ (63 : Int) < (h : Int) := by omega
  have hm : min h 64 = h := by omega
  have hu : IntKind.u64.wrap (h : Int) = (h : Int) := (sz_small h hh).2.2.2
  have hwr := wrap_pow h hh
  have h0 : ¬ l < 0 := by omega
  obtain ⟨N, hN⟩ : ∃ N : Nat, 2 ^ h = N := ⟨_, rfl⟩
  rw [hN] at hp hwr
  go_enter Try.func42, Try.ntmps42
  go_wp2
  go_ret2
  exact ⟨rfl, (Below.refl _ _).alloc (Nat.le_refl _) _⟩
theorem encSR_shape (l : Int) (A B : Option Addr) (n c h c2 : Nat) (w : World) (hh : h ≤ 4) (hl : 0 ≤ l) (hp : l < ((2 ^ h : Nat) : Int)) (hn : n ≠ 18) :
    Calls Try.prog 42 #[.agg #[.int .i64 l, .slice A n c, .slice B h c2]] w fun e w' => e = .returned (.tuple #[.slice none 0 0, .int .i64 4]) ∧ Below w.heap.size w w' := by
  have h4 : ¬ (4 : Int) < (h : Int) := by omega
  have h63 : ¬ (63 : Int) < (h : Int) := by omega
  have hm : min h 64 = h := by omega
  have hu : IntKind.u64.wrap (h : Int) = (h : Int) := (sz_small h hh).2.2.2
  have hwr := wrap_pow h hh
  have h0 : ¬ l < 0 := by omega
  obtain ⟨N, hN⟩ : ∃ N : Nat, 2 ^ h = N := ⟨_, rfl⟩
  rw [hN] at hp hwr
  have hp' : ¬ (N : Int) ≤ l := by omega
  have h18 : ((n : Int) != 18) = true := by simp; omega
  go_enter Try.func42, Try.ntmps42
  go_wp2
  go_ret2
  exact ⟨rfl, (Below.refl _ _).alloc (Nat.le_refl _) _⟩
set_option maxHeartbeats 4000000 in
theorem encSR_ok (l h : Nat) (A B : Option Addr) (c c2 : Nat) (cs ps : List (BitVec 64)) (hh : h ≤ 4) (hp : l < 2 ^ h) (w : World) (hA : Ws w A 18 cs) (hB : Ws w B h ps) :
    Calls Try.prog 42 #[.agg #[.int .i64 (l : Int), .slice A 18 c, .slice B h c2]] w fun e w' => ∃ v, e = .returned (.tuple #[v, .int .i64 0]) ∧ Row w' w.heap.size v (146 + 8 * h) (sigB (l : Int) cs ps) ∧ Below w.heap.size w w' := by
  have h4 : ¬ (4 : Int) < (h : Int) := by omega
  have h63 : ¬ (63 : Int) < (h : Int) := by omega
  have hm : min h 64 = h := by omega
  have hu : IntKind.u64.wrap (h : Int) = (h : Int) := (sz_small h hh).2.2.2
  have hwr := wrap_pow h hh
  have hpw := pow_le h hh
  have h0 : ¬ (l : Int) < 0 := by omega
  obtain ⟨N, hN⟩ : ∃ N : Nat, 2 ^ h = N := ⟨_, rfl⟩
  rw [hN] at hp hwr hpw
  have hp' : ¬ (N : Int) ≤ (l : Int) := by omega
  have hl8 : IntKind.u8.wrap (l : Int) = (l : Int) := by rw [IntKind.wrap_u8]; omega
  have hh8 : IntKind.u8.wrap (h : Int) = (h : Int) := by rw [IntKind.wrap_u8]; omega
  have HA := Lib.hid hA
  have HB := Lib.hid hB
  have HLP := Lib.hid hB.len
  clear hA hB
  go_enter Try.func42, Try.ntmps42
  go_wp2_with fail
  refine one_cs _ [.int .i64 (l : Int), .slice A 18 c, .slice B h c2] ?_
  intro W0 hk hbw
  have HK := Lib.hid hk
  have hlk := hk.lt
  have HBw := Lib.hid hbw
  have hswB := hbw.size
  have HA0 := Lib.hid (HA.out.below hbw)
  have HB0 := Lib.hid (HB.out.below hbw)
  clear hk hbw
  refine wp_region_held (S := fun W => Below W0.heap.size W0 W) (by kernel_rfl) ?_
  refine heldS_take (i := 0) (v := ?_) rfl rfl (by kernel_rfl) (by kernel_rfl) (by kernel_rfl) (fun _ _ _ h => h) (by rfl) ((Below.refl _ W0).drew) ?_ ?_
  rotate_left
  · intro W hW
    go_simp
    try with_reducible rfl
  simp only [Act.put, List.setIfInBounds_toArray, List.set_cons_zero, List.set_cons_succ]
  refine heldS_take (i := 1) (v := ?_) rfl rfl (by kernel_rfl) (by kernel_rfl) (by kernel_rfl) (fun _ _ _ h => h) (by rfl) ((Below.refl _ W0).drew) ?_ ?_
  rotate_left
  · intro W hW
    have e0 := (HK.out.below hW hlk).cell 0
    simp only [List.getElem?_cons_zero] at e0
    go_simp
    try with_reducible rfl
  simp only [Act.put, List.setIfInBounds_toArray, List.set_cons_zero, List.set_cons_succ]
  refine heldS_take (i := 2) (v := ?_) rfl rfl (by kernel_rfl) (by kernel_rfl) (by kernel_rfl) (fun _ _ _ h => h) (by rfl) ((Below.refl _ W0).drew) ?_ ?_
  rotate_left
  · intro W hW
    go_simp
    try with_reducible rfl
  simp only [Act.put, List.setIfInBounds_toArray, List.set_cons_zero, List.set_cons_succ]
  refine heldS_take (i := 3) (v := ?_) rfl rfl (by kernel_rfl) (by kernel_rfl) (by kernel_rfl) (fun _ _ _ h => h) (by rfl) ((Below.refl _ W0).drew) ?_ ?_
  rotate_left
  · intro W hW
    go_simp
    try with_reducible rfl
  simp only [Act.put, List.setIfInBounds_toArray, List.set_cons_zero, List.set_cons_succ]
  refine heldS_take (i := 4) (v := ?_) rfl rfl (by kernel_rfl) (by kernel_rfl) (by kernel_rfl) (fun _ _ _ h => h) (by rfl) ((Below.refl _ W0).drew) ?_ ?_
  rotate_left
  · intro W hW
    have e0 := (HK.out.below hW hlk).cell 2
    simp only [List.getElem?_cons_succ, List.getElem?_cons_zero] at e0
    go_simp
    try with_reducible rfl
  simp only [Act.put, List.setIfInBounds_toArray, List.set_cons_zero, List.set_cons_succ]
  refine heldS_take (i := 5) (v := ?_) rfl rfl (by kernel_rfl) (by kernel_rfl) (by kernel_rfl) (fun _ _ _ h => h) (by rfl) ((Below.refl _ W0).drew) ?_ ?_
  rotate_left
  · intro W hW
    go_simp
    try with_reducible rfl
  simp only [Act.put, List.setIfInBounds_toArray, List.set_cons_zero, List.set_cons_succ]
  refine heldS_take (i := 6) (v := ?_) rfl rfl (by kernel_rfl) (by kernel_rfl) (by kernel_rfl) (fun _ _ _ h => h) (by rfl) ((Below.refl _ W0).drew) ?_ ?_
  rotate_left
  · intro W hW
    go_simp
    try with_reducible rfl
  simp only [Act.put, List.setIfInBounds_toArray, List.set_cons_zero, List.set_cons_succ]
  refine heldS_take (i := 8) (v := ?_) rfl rfl (by kernel_rfl) (by kernel_rfl) (by kernel_rfl) (fun _ _ _ h => h) (by rfl) ((Below.refl _ W0).drew) ?_ ?_
  rotate_left
  · intro W hW
    go_simp
    try with_reducible rfl
  simp only [Act.put, List.setIfInBounds_toArray, List.set_cons_zero, List.set_cons_succ]
  refine heldS_take (i := 9) (v := ?_) rfl rfl (by kernel_rfl) (by kernel_rfl) (by kernel_rfl) (fun _ _ _ h => h) (by rfl) ((Below.refl _ W0).drew) ?_ ?_
  rotate_left
  · intro W hW
    have e0 := (HK.out.below hW hlk).cell 1
    simp only [List.getElem?_cons_succ, List.getElem?_cons_zero] at e0
    go_simp
    try with_reducible rfl
  simp only [Act.put, List.setIfInBounds_toArray, List.set_cons_zero, List.set_cons_succ]
  refine heldS_two (i := 7) (j := 10) (by kernel_rfl) rfl rfl (fun K' hK => ?_) (fun K' hK => ?_)
  · go_simp
    refine hK.out _ _ (((Below.refl _ W0).alloc (Nat.le_refl _) _).drew) ?_
    clear hK K'
    refine heldS_call (i := 10) (by kernel_rfl) rfl (fun K' hK => ?_)
    go_simp
    refine (wordsR_any A 18 c cs _ (HA0.out.below (((Below.refl _ W0).alloc (Nat.le_refl _) _).drew)) (by omega)).mono ?_
    rintro e w2 ⟨v2, rfl, ho, hb⟩
    have hS : Below W0.heap.size W0 w2 := ((Below.refl _ W0).alloc (Nat.le_refl _) _).drew.trans (hb.mono (by simp))
    refine hK.out _ _ hS ?_
    clear hK K'
    obtain ⟨A2, k2, rfl, _, _, hby⟩ := own_bytes ho (wsBytes_rng _)
    have hlb := hby.len
    have hrow : Row w2 W0.heap.size (.slice (some ⟨W0.heap.size, 0, none⟩) 2 2) 2 [(l : Int), (h : Int)] := (RowD (row_two W0 (l : Int) (h : Int) (Nat.le_refl _))).below (hb.mono (by first | (simp; omega) | simp))
    have hsz := hS.size
    obtain ⟨a2, rfl, _⟩ := hby.at_ 0 (by decide)
    have HY := Lib.hid hby
    have HRW := Lib.hid hrow
    have HS2 := Lib.hid hS
    clear hby hrow hS
    refine heldS_call (i := 11) (by kernel_rfl) rfl (fun K' hK => ?_)
    refine step_row rfl _ _ rfl W0.heap.size _ 2 [(l : Int), (h : Int)] a2 (8 * 18) k2 (wsBytes cs) HRW.out rfl HY.out rfl (by omega) hsz ?_
    intro v3 w3 hr3 hb3
    have hS : Below W0.heap.size W0 w3 := HS2.out.trans hb3
    refine hK.out _ _ hS ?_
    clear hK K'
    have HR3 := Lib.hid hr3
    have HS3 := Lib.hid hS
    have hs3 := hS.size
    clear hr3 hb3 hS
    refine heldS_call (i := 12) (by kernel_rfl) rfl (fun K' hK => ?_)
    go_simp
    refine hK.out _ _ HS3.out ?_
    clear hK K'
    refine wpAnyH_done (by kernel_rfl) ?_ _
    obtain ⟨A3, k3, rfl, _, _, _⟩ := HR3.out.bytes (by
      intro z hz
      simp only [List.cons_append, List.nil_append, List.mem_cons] at hz
      rcases hz with rfl | rfl | hz
      · omega
      · omega
      · exact wsBytes_rng _ z hz)
    have e2 := (HK.out.below HS3.out hlk).cell 2
    simp only [List.getElem?_cons_succ, List.getElem?_cons_zero] at e2
    go_wp2_with fail
    refine (wordsR_any B h c2 ps _ (HB0.out.below HS3.out) (by omega)).mono ?_
    rintro e w4 ⟨v4, rfl, ho4, hb4⟩
    obtain ⟨A4, k4, rfl, _, _, hby4⟩ := own_bytes ho4 (wsBytes_rng _)
    have HY4 := Lib.hid hby4
    have HR4 := Lib.hid (HR3.out.below hb4)
    have HS4 := Lib.hid (HS3.out.trans (hb4.mono hs3))
    have hs4 : W0.heap.size ≤ w4.heap.size := Nat.le_trans hs3 hb4.size
    clear ho4 hb4 hby4 e2
    go_wp2_with (at_builtin; refine app_row rfl _ _ rfl W0.heap.size _ (2 + 8 * 18) ([(l : Int), (h : Int)] ++ wsBytes cs) A4 (8 * h) k4 (wsBytes ps) HR4.out rfl HY4.out rfl (by omega) (by omega) ?_)
    intro v5 w5 hr5 hb5
    have HR5 := Lib.hid hr5
    have HS5 := Lib.hid (HS4.out.trans hb5)
    clear hr5 hb5
    go_wp2
    go_ret2
    refine ⟨v5, rfl, ?_, HBw.out.trans (HS5.out.mono hswB)⟩
    have e : [(l : Int), (h : Int)] ++ wsBytes cs ++ wsBytes ps = sigB (l : Int) cs ps := by unfold sigB; rw [HLP.out]
    rw [← e, show 146 + 8 * h = 2 + 8 * 18 + 8 * h by omega]
    exact HR5.out.mono hswB
  · go_simp
    refine (wordsR_any A 18 c cs _ (HA0.out.below ((Below.refl _ W0).drew)) (by omega)).mono ?_
    rintro e w2 ⟨v2, rfl, ho, hb⟩
    have hS : Below W0.heap.size W0 w2 := ((Below.refl _ W0).drew).trans hb
    refine hK.out _ _ hS ?_
    clear hK K'
    obtain ⟨A2, k2, rfl, _, _, hby⟩ := own_bytes ho (wsBytes_rng _)
    have hlb := hby.len
    have hsq := hS.size
    refine heldS_call (i := 7) (by kernel_rfl) rfl (fun K' hK => ?_)
    go_simp
    refine hK.out _ _ (hS.alloc hsq _) ?_
    clear hK K'
    have hrow : Row (w2.alloc (.cells #[.int .u8 (l : Int), .int .u8 (h : Int)] 5)) W0.heap.size (.slice (some ⟨w2.heap.size, 0, none⟩) 2 2) 2 [(l : Int), (h : Int)] := row_two w2 _ _ hsq
    replace hby := hby.below ((Below.refl _ w2).alloc (Nat.le_refl _) (.cells #[.int .u8 (l : Int), .int .u8 (h : Int)] 5))
    replace hS := hS.alloc hsq (.cells #[.int .u8 (l : Int), .int .u8 (h : Int)] 5)
    have hsz := hS.size
    obtain ⟨a2, rfl, _⟩ := hby.at_ 0 (by decide)
    have HY := Lib.hid hby
    have HRW := Lib.hid hrow
    have HS2 := Lib.hid hS
    clear hby hrow hS
    refine heldS_call (i := 11) (by kernel_rfl) rfl (fun K' hK => ?_)
    refine step_row rfl _ _ rfl W0.heap.size _ 2 [(l : Int), (h : Int)] a2 (8 * 18) k2 (wsBytes cs) HRW.out rfl HY.out rfl (by omega) hsz ?_
    intro v3 w3 hr3 hb3
    have hS : Below W0.heap.size W0 w3 := HS2.out.trans hb3
    refine hK.out _ _ hS ?_
    clear hK K'
    have HR3 := Lib.hid hr3
    have HS3 := Lib.hid hS
    have hs3 := hS.size
    clear hr3 hb3 hS
    refine heldS_call (i := 12) (by kernel_rfl) rfl (fun K' hK => ?_)
    go_simp
    refine hK.out _ _ HS3.out ?_
    clear hK K'
    refine wpAnyH_done (by kernel_rfl) ?_ _
    obtain ⟨A3, k3, rfl, _, _, _⟩ := HR3.out.bytes (by
      intro z hz
      simp only [List.cons_append, List.nil_append, List.mem_cons] at hz
      rcases hz with rfl | rfl | hz
      · omega
      · omega
      · exact wsBytes_rng _ z hz)
    have e2 := (HK.out.below HS3.out hlk).cell 2
    simp only [List.getElem?_cons_succ, List.getElem?_cons_zero] at e2
    go_wp2_with fail
    refine (wordsR_any B h c2 ps _ (HB0.out.below HS3.out) (by omega)).mono ?_
    rintro e w4 ⟨v4, rfl, ho4, hb4⟩
    obtain ⟨A4, k4, rfl, _, _, hby4⟩ := own_bytes ho4 (wsBytes_rng _)
    have HY4 := Lib.hid hby4
    have HR4 := Lib.hid (HR3.out.below hb4)
    have HS4 := Lib.hid (HS3.out.trans (hb4.mono hs3))
    have hs4 : W0.heap.size ≤ w4.heap.size := Nat.le_trans hs3 hb4.size
    clear ho4 hb4 hby4 e2
    go_wp2_with (at_builtin; refine app_row rfl _ _ rfl W0.heap.size _ (2 + 8 * 18) ([(l : Int), (h : Int)] ++ wsBytes cs) A4 (8 * h) k4 (wsBytes ps) HR4.out rfl HY4.out rfl (by omega) (by omega) ?_)
    intro v5 w5 hr5 hb5
    have HR5 := Lib.hid hr5
    have HS5 := Lib.hid (HS4.out.trans hb5)
    clear hr5 hb5
    go_wp2
    go_ret2
    refine ⟨v5, rfl, ?_, HBw.out.trans (HS5.out.mono hswB)⟩
    have e : [(l : Int), (h : Int)] ++ wsBytes cs ++ wsBytes ps = sigB (l : Int) cs ps := by unfold sigB; rw [HLP.out]
    rw [← e, show 146 + 8 * h = 2 + 8 * 18 + 8 * h by omega]
    exact HR5.out.mono hswB
theorem or_toNat (r b : BitVec 64) (hr : r.toNat < 2 ^ 56) (hb : b.toNat < 2 ^ 8) : (r <<< 8 ||| b).toNat = 256 * r.toNat + b.toNat := by
  rw [BitVec.toNat_or, BitVec.toNat_shiftLeft, Nat.shiftLeft_eq, Nat.mod_eq_of_lt (by omega), ← Nat.shiftLeft_eq, ← Nat.shiftLeft_add_eq_or_of_lt hb, Nat.shiftLeft_eq]
  omega
theorem wb_nat (x : BitVec 64) (k : Nat) (hk : k < 8) : wb x k = ((x.toNat / 2 ^ (56 - 8 * k) % 256 : Nat) : Int) := by
  rw [← wb_eq]
  unfold val
  rw [show 8 * (7 - k) = 56 - 8 * k by omega]
  simp
theorem rdF_wbs (x : BitVec 64) : ∀ k, k ≤ 8 → (rdF (wbs x 8) k).toNat = x.toNat / 2 ^ (64 - 8 * k)
  | 0, _ => by
    have := x.isLt
    simp only [rdF]
    rw [Nat.div_eq_of_lt (by simpa using this)]
    rfl
  | k + 1, h => by
    have hz : (wbs x 8).getD k 0 = wb x k := by
      unfold wbs
      simp [List.getD, show k < 8 by omega]
    have ih := rdF_wbs x k (by omega)
    have hx := x.isLt
    have hlt : x.toNat / 2 ^ (64 - 8 * k) < 2 ^ 56 := by
      rw [Nat.div_lt_iff_lt_mul (Nat.two_pow_pos _), ← Nat.pow_add]
      exact Nat.lt_of_lt_of_le hx (Nat.pow_le_pow_right (by decide) (by omega))
    have hbn : (BitVec.ofInt 64 (wb x k)).toNat = x.toNat / 2 ^ (56 - 8 * k) % 256 := by
      rw [wb_nat x k (by omega)]
      have : x.toNat / 2 ^ (56 - 8 * k) % 256 < 256 := Nat.mod_lt _ (by decide)
      rw [BitVec.ofInt_natCast, BitVec.toNat_ofNat]
      omega
    unfold rdF
    rw [hz, or_toNat _ _ (by rw [ih]; exact hlt) (by rw [hbn]; exact Nat.mod_lt _ (by decide)), ih, hbn]
    have e : x.toNat / 2 ^ (64 - 8 * k) = x.toNat / 2 ^ (56 - 8 * k) / 256 := by
      rw [Nat.div_div_eq_div_mul, show (256 : Nat) = 2 ^ 8 by rfl, ← Nat.pow_add, show 56 - 8 * k + 8 = 64 - 8 * k by omega]
    rw [e, show 64 - 8 * (k + 1) = 56 - 8 * k by omega]
    omega
theorem rd_back (x : BitVec 64) : rdF (wbs x 8) 8 = x := by
  apply BitVec.eq_of_toNat_eq
  rw [rdF_wbs x 8 (by omega)]
  simp
theorem drop_app' {α : Type} (p q : List α) (n : Nat) : (p ++ q).drop (p.length + n) = q.drop n := by
  rw [List.drop_append, List.drop_eq_nil_of_le (by omega), List.nil_append, Nat.add_sub_cancel_left]
theorem wsBytes_at : ∀ (ws : List (BitVec 64)) (k : Nat), k < ws.length → ∀ (r : List Int), ((wsBytes ws ++ r).drop (8 * k)).take 8 = wbs (ws.getD k 0) 8
  | [], k, h, _ => absurd h (by simp)
  | x :: t, 0, _, r => by
    have hl : (wbs x 8).length = 8 := by simp [wbs]
    have e : wsBytes (x :: t) = wbs x 8 ++ wsBytes t := by simp [wsBytes]
    rw [e, List.append_assoc]
    simp [hl]
  | x :: t, k + 1, h, r => by
    have hl : (wbs x 8).length = 8 := by simp [wbs]
    have e : wsBytes (x :: t) = wbs x 8 ++ wsBytes t := by simp [wsBytes]
    have ih := wsBytes_at t k (by simpa using h) r
    rw [e, List.append_assoc, show 8 * (k + 1) = (wbs x 8).length + 8 * k by rw [hl]; omega, drop_app', ih]
    rfl
theorem words_back (ws : List (BitVec 64)) (p r : List Int) (o : Nat) (ho : p.length = o) : wordsAt (p ++ (wsBytes ws ++ r)) o ws.length = ws := by
  apply List.ext_getElem (by simp [wordsAt])
  intro i h1 h2
  have hi : i < ws.length := h2
  simp only [wordsAt, List.getElem_map, List.getElem_range]
  unfold wordAt
  rw [← ho, drop_app', wsBytes_at ws i hi r, rd_back]
  simp [List.getD, List.getElem?_eq_getElem hi]
/-- what both EncodeSignature answer -/
def egE (l : Int) (n h : Nat) : Int := if leafB (h : Int) l = true then (if n = 18 then 0 else 4) else 9
def egB (l : Int) (n h : Nat) (cs ps : List (BitVec 64)) : List Int := if leafB (h : Int) l = true then (if n = 18 then sigB l cs ps else []) else []
def EncSP (l : Int) (n h : Nat) (cs ps : List (BitVec 64)) (w : World) (e : Ending) (w' : World) : Prop := ∃ A m c, e = .returned (.tuple #[.slice A m c, .int .i64 (egE l n h)]) ∧
  Bytes w' A m (egB l n h cs ps) ∧ m ≤ c ∧ Below w.heap.size w w'
theorem bytes_none (w : World) (A : Option Addr) : Bytes w A 0 [] := ⟨rfl, fun z hz => (by cases hz), fun i hi => absurd hi (by omega)⟩
theorem sigB_rng16 {l h : Nat} {cs ps : List (BitVec 64)} (hl : l < 16) (hh : h ≤ 4) (hp : ps.length = h) : ∀ z ∈ sigB (l : Int) cs ps, 0 ≤ z ∧ z ≤ 255 := by
  intro z hz
  simp only [sigB, List.mem_append, List.mem_cons, List.not_mem_nil, or_false] at hz
  rcases hz with ((rfl | rfl) | hz) | hz
  · omega
  · omega
  · exact wsBytes_rng _ z hz
  · exact wsBytes_rng _ z hz
theorem sigB_split (l : Int) (cs ps : List (BitVec 64)) : sigB l cs ps = l :: (ps.length : Int) :: (wsBytes cs ++ wsBytes ps) := by simp [sigB]
theorem sig_back {l h : Nat} {cs ps : List (BitVec 64)} (hh : leafB (h : Int) (l : Int) = true) (hc : cs.length = 18) (hp : ps.length = h) :
    dsB (sigB (l : Int) cs ps) = true ∧ dsC (sigB (l : Int) cs ps) = cs ∧ dsP (sigB (l : Int) cs ps) = ps := by
  have h0 : (sigB (l : Int) cs ps).getD 0 0 = (l : Int) := by rw [sigB_split]; rfl
  have h1 : (sigB (l : Int) cs ps).getD 1 0 = (h : Int) := by rw [sigB_split, ← hp]; rfl
  have hl : (sigB (l : Int) cs ps).length = 146 + 8 * h := by rw [sigB_split]; simp [wsBytes_len, hc, hp]; omega
  have hB : dsB (sigB (l : Int) cs ps) = true := by
    unfold dsB
    rw [h0, h1, hh, hl]
    simp
    omega
  refine ⟨hB, ?_, ?_⟩
  · unfold dsC
    rw [if_pos hB]
    have := words_back cs [(l : Int), (ps.length : Int)] (wsBytes ps) 2 rfl
    rw [hc] at this
    rw [sigB_split]
    exact this
  · unfold dsP
    rw [if_pos hB, h1]
    have := words_back ps ((l : Int) :: (ps.length : Int) :: wsBytes cs) [] 146 (by simp [wsBytes_len, hc])
    rw [hp] at this
    rw [Int.toNat_natCast, sigB_split, hp]
    rw [List.append_nil] at this
    exact this
theorem encSP_range {l : Int} {n h : Nat} {cs ps : List (BitVec 64)} {w w' : World} {e : Ending} (hh : leafB (h : Int) l = false) (h' : e = .returned (.tuple #[.slice none 0 0, .int .i64 9]) ∧ Below w.heap.size w w') : EncSP l n h cs ps w e w' := by
  refine ⟨none, 0, 0, ?_, ?_, Nat.le_refl _, h'.2⟩
  · unfold egE; rw [hh]; exact h'.1
  · unfold egB; rw [hh]; exact bytes_none _ _
theorem encSP_shape {l : Int} {n h : Nat} {cs ps : List (BitVec 64)} {w w' : World} {e : Ending} (hh : leafB (h : Int) l = true) (hn : n ≠ 18) (h' : e = .returned (.tuple #[.slice none 0 0, .int .i64 4]) ∧ Below w.heap.size w w') : EncSP l n h cs ps w e w' := by
  refine ⟨none, 0, 0, ?_, ?_, Nat.le_refl _, h'.2⟩
  · unfold egE; rw [hh, if_pos rfl, if_neg hn]; exact h'.1
  · unfold egB; rw [hh, if_pos rfl, if_neg hn]; exact bytes_none _ _
theorem encSP_ok {l h : Nat} {cs ps : List (BitVec 64)} {w w' : World} {e : Ending} (hh : leafB (h : Int) (l : Int) = true) (hp : ps.length = h)
    (h' : ∃ v, e = .returned (.tuple #[v, .int .i64 0]) ∧ Row w' w.heap.size v (146 + 8 * h) (sigB (l : Int) cs ps) ∧ Below w.heap.size w w') : EncSP (l : Int) 18 h cs ps w e w' := by
  obtain ⟨v, he, hr, hb⟩ := h'
  obtain ⟨hh4, _, hl16⟩ := leaf_small hh
  obtain ⟨A, c, rfl, hc, _, hy⟩ := hr.bytes (sigB_rng16 hl16 hh4 hp)
  refine ⟨A, _, c, ?_, ?_, hc, hb⟩
  · unfold egE; rw [hh, if_pos rfl, if_pos rfl]; exact he
  · unfold egB; rw [hh, if_pos rfl, if_pos rfl]; exact hy
theorem enc_all (l : Int) (A B : Option Addr) (n c h c2 : Nat) (cs ps : List (BitVec 64)) (w : World) (hA : Ws w A n cs) (hB : Ws w B h ps) :
    Calls Try.prog 29 #[.agg #[.int .i64 l, .slice A n c, .slice B h c2]] w (EncSP l n h cs ps w) := by
  cases hh : leafB (h : Int) l with
  | false => exact (encS_range l A B n c h c2 hh w).mono fun e w' h' => encSP_range hh h'
  | true =>
    by_cases hn : n = 18
    · subst hn
      obtain ⟨k, rfl⟩ := Int.eq_ofNat_of_zero_le (leaf_lt hh).2.1
      exact (encS_ok k h A B c c2 cs ps hh w hA hB).mono fun e w' h' => encSP_ok hh hB.len h'
    · exact (encS_shape l A B n c h c2 hh hn w).mono fun e w' h' => encSP_shape hh hn h'
theorem encR_all (l : Int) (A B : Option Addr) (n c h c2 : Nat) (cs ps : List (BitVec 64)) (w : World) (hA : Ws w A n cs) (hB : Ws w B h ps) :
    Calls Try.prog 42 #[.agg #[.int .i64 l, .slice A n c, .slice B h c2]] w (EncSP l n h cs ps w) := by
  by_cases h4 : h ≤ 4
  · by_cases hl : 0 ≤ l
    · obtain ⟨k, rfl⟩ := Int.eq_ofNat_of_zero_le hl
      by_cases hp : k < 2 ^ h
      · have hh := leafB_yes h4 hl (by omega : (k : Int) < ((2 ^ h : Nat) : Int))
        by_cases hn : n = 18
        · subst hn
          exact (encSR_ok k h A B c c2 cs ps h4 hp w hA hB).mono fun e w' h' => encSP_ok hh hB.len h'
        · exact (encSR_shape (k : Int) A B n c h c2 w h4 hl (by omega) hn).mono fun e w' h' => encSP_shape hh hn h'
      · exact (encSR_big (k : Int) A B n c h c2 w h4 hl (by omega)).mono fun e w' h' => encSP_range (leafB_no (by omega)) h'
    · refine (encSR_neg l A B n c h c2 w h4 (by omega)).mono fun e w' h' => encSP_range ?_ h'
      unfold leafB
      simp only [decide_eq_false hl, Bool.and_false, Bool.false_and]
  · exact (encSR_hi l A B n c h c2 w (by omega)).mono fun e w' h' => encSP_range (leafB_hi h4) h'

theorem dsN_le (zs : List Int) : dsN zs ≤ 18 := by unfold dsN; split <;> omega
theorem dsM_le (zs : List Int) : dsM zs ≤ 4 := by
  unfold dsM
  split
  · rename_i h
    rcases hgt_cases (leaf_lt (dsB_split h).2.1).1 with e | e | e | e | e <;> omega
  · omega
set_option maxHeartbeats 1000000 in
theorem decodes_any (A : Option Addr) (n c : Nat) (zs : List Int) (w : World) (hB : Bytes w A n zs) (hc : n ≤ c) :
    Calls Try.prog 24 #[.slice A n c] w fun e w' => e = .returned (.bool true) ∧ Below w.heap.size w w' := by
  have HB := Lib.hid hB
  clear hB
  go_enter Try.func24, Try.ntmps24
  go_wp2_with fail
  refine (dec_all A n c zs w HB.out hc).mono ?_
  have hnm := dsN_le zs
  have hmm := dsM_le zs
  have hR : ∀ w', Bytes w' A n zs → Calls Try.prog 44 #[.slice A n c] w' (DecSP zs w') := fun w' h => decR_all A n c zs w' h hc
  unfold DecSP at hR ⊢
  generalize dsL zs = L at *
  generalize dsE zs = E at *
  generalize dsN zs = N at *
  generalize dsM zs = M at *
  generalize dsC zs = cs at *
  generalize dsP zs = ps at *
  rintro e w1 ⟨A1, c1, B1, d1, rfl, hA1, hP1, hb1⟩
  have HA1 := Lib.hid hA1
  have HP1 := Lib.hid hP1
  have HW1 := Lib.hid hb1
  clear hA1 hP1 hb1
  have HR := Lib.hid hR
  clear hR
  go_wp2_with fail
  have hb2 := HW1.out.alloc HW1.out.size (.cells #[.int .i64 L, .slice A1 N c1, .slice B1 M d1] 32)
  refine (HR.out _ (HB.out.below hb2)).mono ?_
  rintro e w2 ⟨A2, c2, B2, d2, rfl, hA2, hP2, hb2'⟩
  have hgrow : Below w1.heap.size w1 w2 := ((Below.refl _ w1).alloc (Nat.le_refl _) _).trans (hb2'.mono (by simp))
  have hk1 := (Cs.new w1 32 [.int .i64 L, .slice A1 N c1, .slice B1 M d1]).below hb2' (by simp)
  have HA2 := Lib.hid hA2
  have HP2 := Lib.hid hP2
  have HA12 := Lib.hid (HA1.out.below hgrow)
  have HP12 := Lib.hid (HP1.out.below hgrow)
  have HW2 := Lib.hid (hb2.trans (hb2'.mono (by have := HW1.out.size; simp; omega)))
  have hgb := (Below.refl w2.heap.size w2).alloc (Nat.le_refl _) (.cells #[.int .i64 L, .slice A2 N c2, .slice B2 M d2] 32)
  have hk1' := hk1.below hgb hk1.lt
  have q0 := hk1'.cell 0
  have q1 := hk1'.cell 1
  have q2 := hk1'.cell 2
  simp only [List.getElem?_cons_succ, List.getElem?_cons_zero] at q0 q1 q2
  have HGB := Lib.hid hgb
  clear hA2 hP2 hgrow hk1 hk1' hb2 hb2' hgb
  go_wp2_with fail
  refine (same_sig L A1 A2 B1 B2 N c1 c2 M d1 d2 cs ps _ (HA12.out.below HGB.out) (HA2.out.below HGB.out) (HP12.out.below HGB.out) (HP2.out.below HGB.out) (by omega) (by omega)).mono ?_
  rintro e w3 ⟨rfl, hb3⟩
  have HB3 := Lib.hid ((HW2.out.alloc HW2.out.size _).trans (hb3.mono (by have := HW2.out.size; simp; omega)))
  clear hb3
  go_wp2
  exact bodyPost_ret (v := .bool true) (by simp [results, Try.results24, go_sem]) rfl ⟨rfl, HB3.out⟩

theorem step_rowG {ops : Array Oper} {o : Oper} {a : Act} {W : World} {K : Act → World → Prop} {Q : Exit → Act → World → Prop} {E : Prop} (hw : Region.wanted o (yielded ops a.tmps) = true) (s x : Operand)
    (ho : o.op = .call { callee := .builtin .append, args := #[s, x], argTypes := #[43, 43] })
    (base : Nat) (v : Value) (n : Nat) (xs : List Int) (A : Option Addr) (m cap : Nat) (zs : List Int) (hown : Row W base v n xs) (hs : a.eval s = v)
    (hB : Bytes W A m zs) (hx : a.eval x = .slice A m cap) (hA : A.isSome = true) (hn : n + m ≤ 100000000000000) (hb : base ≤ W.heap.size)
    (h : ∀ v' w', Row w' base v' (n + m) (xs ++ zs) → Below base W w' → K (a.put o.dst v') w') :
    if Region.wanted o (yielded ops a.tmps) = true then Oper.wp Try.prog o a W K Q else E := by
  obtain ⟨A, rfl⟩ := Option.isSome_iff_exists.1 hA
  rw [if_pos hw]
  obtain ⟨v', w', hr, h2, h3⟩ := run_append_row (ty := o.type) (cap := cap) hown hB hn hb
  unfold Oper.wp execOp
  simp only [ho, resolve, invoke, builtin, Sem.run_bind, Sem.run_pure, Result.andThen_ok, List.map_toArray, List.map_cons, List.map_nil, hs, hx, hr]
  exact h v' w' h2 h3
theorem wrap_small (m : Nat) (h : m ≤ 1000) : wrap64 (m : Int) = (m : Int) := by unfold wrap64; omega
theorem dec_sig (A : Option Addr) (m c : Nat) (l h : Nat) (cs ps : List (BitVec 64)) (w : World) (hh : leafB (h : Int) (l : Int) = true) (hc : cs.length = 18) (hp : ps.length = h) (hB : Bytes w A m (sigB (l : Int) cs ps)) (hm : m ≤ c) :
    Calls Try.prog 43 #[.slice A m c] w fun e w' => ∃ A' c' B' d', e = .returned (.tuple #[.agg #[.int .i64 (l : Int), .slice A' 18 c', .slice B' h d'], .int .i64 0]) ∧ Ws w' A' 18 cs ∧ Ws w' B' h ps ∧ Below w.heap.size w w' := by
  refine (dec_all A m c _ w hB hm).mono ?_
  rintro e w' ⟨A', c', B', d', he, hA, hP, hb⟩
  obtain ⟨h1, h2, h3⟩ := sig_back hh hc hp
  have h0 : (sigB (l : Int) cs ps).getD 0 0 = (l : Int) := by rw [sigB_split]; rfl
  have h4 : (sigB (l : Int) cs ps).getD 1 0 = (h : Int) := by rw [sigB_split, ← hp]; rfl
  rw [h2] at hA
  rw [h3] at hP
  unfold dsL dsE dsN dsM at he
  unfold dsN at hA
  unfold dsM at hP
  simp only [h1, if_true, h0, h4, Int.toNat_natCast] at he hA hP
  exact ⟨A', c', B', d', he, hA, hP, hb⟩
set_option maxHeartbeats 1000000 in
theorem codes_no (l : Int) (A B : Option Addr) (n c h c2 : Nat) (cs ps : List (BitVec 64)) (w : World) (hA : Ws w A n cs) (hB : Ws w B h ps) (he : egE l n h ≠ 0) :
    Calls Try.prog 23 #[.agg #[.int .i64 l, .slice A n c, .slice B h c2]] w fun e w' => e = .returned (.bool true) ∧ Below w.heap.size w w' := by
  have HA := Lib.hid hA
  have HB := Lib.hid hB
  clear hA hB
  go_enter Try.func23, Try.ntmps23
  go_wp2_with fail
  obtain ⟨W0, hW0⟩ : ∃ W0, w.alloc (.cells #[.int .i64 l, .slice A n c, .slice B h c2] 32) = W0 := ⟨_, rfl⟩
  have hk : Cs (w.alloc (.cells #[.int .i64 l, .slice A n c, .slice B h c2] 32)) w.heap.size 32 [.int .i64 l, .slice A n c, .slice B h c2] := Cs.new w 32 [.int .i64 l, .slice A n c, .slice B h c2]
  have hb := (Below.refl w.heap.size w).alloc (Nat.le_refl _) (.cells #[.int .i64 l, .slice A n c, .slice B h c2] 32)
  rw [hW0] at hk hb ⊢
  have HK := Lib.hid hk
  have hlk := hk.lt
  have HA0 := Lib.hid (HA.out.below hb)
  have HP0 := Lib.hid (HB.out.below hb)
  have HW0 := Lib.hid hb
  clear hk hb hW0
  refine (enc_all l A B n c h c2 cs ps W0 HA0.out HP0.out).mono ?_
  rintro e w1 ⟨A1, m, k1, rfl, hy1, hk1, hb1⟩
  have hk' := HK.out.below hb1 hlk
  have p0 := hk'.cell 0
  have p1 := hk'.cell 1
  have p2 := hk'.cell 2
  simp only [List.getElem?_cons_succ, List.getElem?_cons_zero] at p0 p1 p2
  have HY1 := Lib.hid hy1
  have HW1 := Lib.hid hb1
  have HK1 := Lib.hid hk'
  have hlk1 := hk'.lt
  clear hy1 hb1 hk'
  go_wp2_with fail
  refine (encR_all l A B n c h c2 cs ps w1 (HA0.out.below HW1.out) (HP0.out.below HW1.out)).mono ?_
  rintro e w2 ⟨A2, m2, k2, rfl, hy2, hk2, hb2⟩
  have hk' := HK1.out.below hb2 hlk1
  have HK2 := Lib.hid hk'
  have hlk2 := hk'.lt
  have HY12 := Lib.hid (HY1.out.below hb2)
  have HW2 := Lib.hid (HW0.out.trans ((HW1.out.trans (hb2.mono HW1.out.size)).mono HW0.out.size))
  have hx := conv_bytes (cap := k1) HY12.out
  have hy := conv_bytes (cap := k2) hy2
  clear hb2 hk' hy2 hk2 p0 p1 p2
  generalize egE l n h = E at *
  generalize egB l n h cs ps = zs at *
  generalize strOfNums zs = z3 at *
  go_wp2
  go_ret
  exact ⟨rfl, HW2.out⟩
set_option maxHeartbeats 4000000 in
theorem codes_ok (l h : Nat) (A B : Option Addr) (c c2 : Nat) (cs ps : List (BitVec 64)) (w : World) (hA : Ws w A 18 cs) (hB : Ws w B h ps) (hh : leafB (h : Int) (l : Int) = true) :
    Calls Try.prog 23 #[.agg #[.int .i64 (l : Int), .slice A 18 c, .slice B h c2]] w fun e w' => e = .returned (.bool true) ∧ Below w.heap.size w w' := by
  have HA := Lib.hid hA
  have HB := Lib.hid hB
  have HH := Lib.hid hh
  have hlc := hA.len
  have hlp := hB.len
  obtain ⟨hh4, _, hl16⟩ := leaf_small hh
  have hE : egE (l : Int) 18 h = 0 := by unfold egE; rw [hh, if_pos rfl, if_pos rfl]
  have hZ : egB (l : Int) 18 h cs ps = sigB (l : Int) cs ps := by unfold egB; rw [hh, if_pos rfl, if_pos rfl]
  have hlen : (sigB (l : Int) cs ps).length = 146 + 8 * h := by rw [sigB_split]; simp [wsBytes_len, hlc, hlp]; omega
  have HLC := Lib.hid hlc
  have HLP := Lib.hid hlp
  clear hA hB hh hlc hlp
  go_enter Try.func23, Try.ntmps23
  go_wp2_with fail
  obtain ⟨W0, hW0⟩ : ∃ W0, w.alloc (.cells #[.int .i64 (l : Int), .slice A 18 c, .slice B h c2] 32) = W0 := ⟨_, rfl⟩
  have hk : Cs (w.alloc (.cells #[.int .i64 (l : Int), .slice A 18 c, .slice B h c2] 32)) w.heap.size 32 [.int .i64 (l : Int), .slice A 18 c, .slice B h c2] := Cs.new w 32 [.int .i64 (l : Int), .slice A 18 c, .slice B h c2]
  have hb := (Below.refl w.heap.size w).alloc (Nat.le_refl _) (.cells #[.int .i64 (l : Int), .slice A 18 c, .slice B h c2] 32)
  rw [hW0] at hk hb ⊢
  have HK := Lib.hid hk
  have hlk := hk.lt
  have HA0 := Lib.hid (HA.out.below hb)
  have HP0 := Lib.hid (HB.out.below hb)
  have HW0 := Lib.hid hb
  clear hk hb hW0
  refine (enc_all (l : Int) A B 18 c h c2 cs ps W0 HA0.out HP0.out).mono ?_
  rintro e w1 ⟨A1, m, k1, rfl, hy1, hk1, hb1⟩
  have hk' := HK.out.below hb1 hlk
  have p0 := hk'.cell 0
  have p1 := hk'.cell 1
  have p2 := hk'.cell 2
  simp only [List.getElem?_cons_succ, List.getElem?_cons_zero] at p0 p1 p2
  have HY1 := Lib.hid hy1
  have HW1 := Lib.hid hb1
  have HK1 := Lib.hid hk'
  have hlk1 := hk'.lt
  clear hy1 hb1 hk'
  go_wp2_with fail
  refine (encR_all (l : Int) A B 18 c h c2 cs ps w1 (HA0.out.below HW1.out) (HP0.out.below HW1.out)).mono ?_
  rintro e w2 ⟨A2, m2, k2, rfl, hy2, hk2, hb2⟩
  have hk' := HK1.out.below hb2 hlk1
  have HK2 := Lib.hid hk'
  have hlk2 := hk'.lt
  have HY12 := Lib.hid (HY1.out.below hb2)
  have HW2 := Lib.hid (HW0.out.trans ((HW1.out.trans (hb2.mono HW1.out.size)).mono HW0.out.size))
  have hx := conv_bytes (cap := k1) HY12.out
  have hy := conv_bytes (cap := k2) hy2
  clear hb2 hk' hy2 hk2 p0 p1 p2
  rw [hE]
  rw [hZ] at hx hy HY12
  generalize hzs : sigB (l : Int) cs ps = zs at *
  have hl1 := HY12.out.len
  obtain ⟨m1, rfl⟩ : ∃ m1, m = m1 + 1 := ⟨m - 1, by omega⟩
  have HZS := Lib.hid hzs
  generalize hst : strOfNums zs = z3 at *
  clear hzs hst hE hZ
  go_wp2_with fail
  refine (dec_sig A1 (m1 + 1) k1 l h cs ps w2 HH.out HLC.out HLP.out (by rw [HZS.out]; exact HY12.out) hk1).mono ?_
  rintro e w3 ⟨A3, c3, B3, d3, rfl, hA3, hP3, hb3⟩
  have hgr := (Below.refl w3.heap.size w3).alloc (Nat.le_refl _) (.cells #[.int .i64 (l : Int), .slice A3 18 c3, .slice B3 h d3] 32)
  clear hx hy
  go_wp2_with fail
  refine one_cs _ [.int .i64 (l : Int), .slice A3 18 c3, .slice B3 h d3] ?_
  intro W3 hkt hbw
  have HTT := Lib.hid hkt
  have hlt := hkt.lt
  have hgg := hb3.trans (hbw.mono hb3.size)
  have hks := HK2.out.below hgg hlk2
  have HSS := Lib.hid hks
  have hls := hks.lt
  have hgw : Below w.heap.size w W3 := HW2.out.trans (hgg.mono (Nat.le_of_lt hlk2))
  have HGW := Lib.hid hgw
  have HAw := Lib.hid (HA.out.below hgw)
  have HPw := Lib.hid (HB.out.below hgw)
  have HA3 := Lib.hid (hA3.below hbw)
  have HP3 := Lib.hid (hP3.below hbw)
  have HYz := Lib.hid (HY12.out.below hgg)
  obtain ⟨a, rfl, hc0⟩ := HYz.out.at_ 0 (by omega)
  have hz0 : zs.getD 0 0 = (l : Int) := by rw [← HZS.out, sigB_split]; rfl
  have ha : a.add 0 = a := by unfold Addr.add; rfl
  rw [ha, hz0] at hc0
  have HC0 := Lib.hid hc0
  have hwm := wrap_small m1 (by omega)
  have hwmi : IntKind.i64.wrap (m1 : Int) = (m1 : Int) := (wrap_i64_64 _).trans hwm
  have hwl : IntKind.u8.wrap ((l : Int) + 1) = (l : Int) + 1 := by rw [IntKind.wrap_u8]; omega
  have hm1k : m1 ≤ k1 := by omega
  have hm1kI : (m1 : Int) ≤ (k1 : Int) := by omega
  have hk1n : ¬ k1 = 1 := by omega
  have hk1z : ¬ k1 - 1 = 0 := by omega
  have hm11 : (1 : Int) ≤ (m1 : Int) + 1 := by omega
  have hmk : m1 + 1 ≤ k1 := hk1
  have hmkI : (m1 : Int) + 1 ≤ (k1 : Int) := by omega
  have hm10 : 0 < m1 + 1 := by omega
  have hm10I : (0 : Int) < (m1 : Int) + 1 := by omega
  clear hkt hbw hgg hks hgw hA3 hP3 hb3 hgr hc0 ha hz0
  refine wp_region_held (S := fun W => Below W3.heap.size W3 W) (by kernel_rfl) ?_
  refine heldS_take (i := 0) (v := ?_) rfl rfl (by kernel_rfl) (by kernel_rfl) (by kernel_rfl) (fun _ _ _ h => h) (by rfl) ((Below.refl _ W3).drew) ?_ ?_
  rotate_left
  · intro W hW
    go_simp
    try with_reducible rfl
  simp only [Act.put, List.setIfInBounds_toArray, List.set_cons_zero, List.set_cons_succ]
  refine heldS_take (i := 1) (v := ?_) rfl rfl (by kernel_rfl) (by kernel_rfl) (by kernel_rfl) (fun _ _ _ h => h) (by rfl) ((Below.refl _ W3).drew) ?_ ?_
  rotate_left
  · intro W hW
    go_simp
    try with_reducible rfl
  simp only [Act.put, List.setIfInBounds_toArray, List.set_cons_zero, List.set_cons_succ]
  refine heldS_take (i := 2) (v := ?_) rfl rfl (by kernel_rfl) (by kernel_rfl) (by kernel_rfl) (fun _ _ _ h => h) (by rfl) ((Below.refl _ W3).drew) ?_ ?_
  rotate_left
  · intro W hW
    go_simp
    try with_reducible rfl
  simp only [Act.put, List.setIfInBounds_toArray, List.set_cons_zero, List.set_cons_succ]
  refine heldS_take (i := 3) (v := ?_) rfl rfl (by kernel_rfl) (by kernel_rfl) (by kernel_rfl) (fun _ _ _ h => h) (by rfl) ((Below.refl _ W3).drew) ?_ ?_
  rotate_left
  · intro W hW
    have e0 := (HSS.out.below hW hls).cell 0
    have e1 := (HSS.out.below hW hls).cell 1
    have e2 := (HSS.out.below hW hls).cell 2
    simp only [List.getElem?_cons_succ, List.getElem?_cons_zero] at e0 e1 e2
    go_simp
    try with_reducible rfl
  simp only [Act.put, List.setIfInBounds_toArray, List.set_cons_zero, List.set_cons_succ]
  refine heldS_take (i := 4) (v := ?_) rfl rfl (by kernel_rfl) (by kernel_rfl) (by kernel_rfl) (fun _ _ _ h => h) (by rfl) ((Below.refl _ W3).drew) ?_ ?_
  rotate_left
  · intro W hW
    have e0 := (HTT.out.below hW hlt).cell 0
    have e1 := (HTT.out.below hW hlt).cell 1
    have e2 := (HTT.out.below hW hlt).cell 2
    simp only [List.getElem?_cons_succ, List.getElem?_cons_zero] at e0 e1 e2
    go_simp
    try with_reducible rfl
  simp only [Act.put, List.setIfInBounds_toArray, List.set_cons_zero, List.set_cons_succ]
  refine heldS_call (i := 5) (by kernel_rfl) rfl (fun K' hK => ?_)
  go_simp
  refine (same_sig (l : Int) A A3 B B3 18 c c3 h c2 d3 cs ps _ (HAw.out.below (Below.refl _ W3).drew) (HA3.out.below (Below.refl _ W3).drew) (HPw.out.below (Below.refl _ W3).drew) (HP3.out.below (Below.refl _ W3).drew) (by omega) (by omega)).mono ?_
  rintro e w5 ⟨rfl, hb5⟩
  have hS : Below W3.heap.size W3 w5 := (Below.refl _ W3).drew.trans hb5
  refine hK.out _ _ hS ?_
  clear hK K'
  have HS5 := Lib.hid hS
  have hs5 := hS.size
  clear hS hb5
  refine heldS_take (i := 6) (v := ?_) rfl rfl (by kernel_rfl) (by kernel_rfl) (by kernel_rfl) (fun _ _ _ h => h) (by rfl) HS5.out ?_ ?_
  rotate_left
  · intro W hW
    go_simp
    try with_reducible rfl
  simp only [Act.put, List.setIfInBounds_toArray, List.set_cons_zero, List.set_cons_succ]
  refine heldS_take (i := 7) (v := ?_) rfl rfl (by kernel_rfl) (by kernel_rfl) (by kernel_rfl) (fun _ _ _ h => h) (by rfl) HS5.out ?_ ?_
  rotate_left
  · intro W hW
    go_simp
    try with_reducible rfl
  simp only [Act.put, List.setIfInBounds_toArray, List.set_cons_zero, List.set_cons_succ]
  refine heldS_take (i := 8) (v := ?_) rfl rfl (by kernel_rfl) (by kernel_rfl) (by kernel_rfl) (fun _ _ _ h => h) (by rfl) HS5.out ?_ ?_
  rotate_left
  · intro W hW
    go_simp
    try with_reducible rfl
  simp only [Act.put, List.setIfInBounds_toArray, List.set_cons_zero, List.set_cons_succ]
  refine heldS_take (i := 9) (v := ?_) rfl rfl (by kernel_rfl) (by kernel_rfl) (by kernel_rfl) (fun _ _ _ h => h) (by rfl) HS5.out ?_ ?_
  rotate_left
  · intro W hW
    go_simp
    try with_reducible rfl
  simp only [Act.put, List.setIfInBounds_toArray, List.set_cons_zero, List.set_cons_succ]
  refine heldS_take (i := 10) (v := ?_) rfl rfl (by kernel_rfl) (by kernel_rfl) (by kernel_rfl) (fun _ _ _ h => h) (by rfl) HS5.out ?_ ?_
  rotate_left
  · intro W hW
    go_simp
    try with_reducible rfl
  simp only [Act.put, List.setIfInBounds_toArray, List.set_cons_zero, List.set_cons_succ]
  refine heldS_take (i := 11) (v := ?_) rfl rfl (by kernel_rfl) (by kernel_rfl) (by kernel_rfl) (fun _ _ _ h => h) (by rfl) HS5.out ?_ ?_
  rotate_left
  · intro W hW
    go_simp
    try with_reducible rfl
  simp only [Act.put, List.setIfInBounds_toArray, List.set_cons_zero, List.set_cons_succ]
  refine heldS_take (i := 12) (v := ?_) rfl rfl (by kernel_rfl) (by kernel_rfl) (by kernel_rfl) (fun _ _ _ h => h) (by rfl) HS5.out ?_ ?_
  rotate_left
  · intro W hW
    go_simp
    try with_reducible rfl
  simp only [Act.put, List.setIfInBounds_toArray, List.set_cons_zero, List.set_cons_succ]
  refine heldS_call (i := 13) (by kernel_rfl) rfl (fun K' hK => ?_)
  go_simp
  refine (decodes_any (some a) m1 k1 (zs.take m1) _ ((HYz.out.take m1 (by omega)).below HS5.out) hm1k).mono ?_
  rintro e w6 ⟨rfl, hb6⟩
  have hS : Below W3.heap.size W3 w6 := HS5.out.trans (hb6.mono hs5)
  refine hK.out _ _ hS ?_
  clear hK K'
  have HS6 := Lib.hid hS
  have hs6 := hS.size
  clear hS hb6
  refine heldS_take (i := 14) (v := ?_) rfl rfl (by kernel_rfl) (by kernel_rfl) (by kernel_rfl) (fun _ _ _ h => h) (by rfl) HS6.out ?_ ?_
  rotate_left
  · intro W hW
    go_simp
    try with_reducible rfl
  simp only [Act.put, List.setIfInBounds_toArray, List.set_cons_zero, List.set_cons_succ]
  refine heldS_take (i := 15) (v := ?_) rfl rfl (by kernel_rfl) (by kernel_rfl) (by kernel_rfl) (fun _ _ _ h => h) (by rfl) HS6.out ?_ ?_
  rotate_left
  · intro W hW
    go_simp
    try with_reducible rfl
  simp only [Act.put, List.setIfInBounds_toArray, List.set_cons_zero, List.set_cons_succ]
  refine heldS_take (i := 16) (v := ?_) rfl rfl (by kernel_rfl) (by kernel_rfl) (by kernel_rfl) (fun _ _ _ h => h) (by rfl) HS6.out ?_ ?_
  rotate_left
  · intro W hW
    go_simp
    try with_reducible rfl
  simp only [Act.put, List.setIfInBounds_toArray, List.set_cons_zero, List.set_cons_succ]
  refine heldS_take (i := 17) (v := ?_) rfl rfl (by kernel_rfl) (by kernel_rfl) (by kernel_rfl) (fun _ _ _ h => h) (by rfl) HS6.out ?_ ?_
  rotate_left
  · intro W hW
    go_simp
    try with_reducible rfl
  simp only [Act.put, List.setIfInBounds_toArray, List.set_cons_zero, List.set_cons_succ]
  refine heldS_take (i := 18) (v := ?_) rfl rfl (by kernel_rfl) (by kernel_rfl) (by kernel_rfl) (fun _ _ _ h => h) (by rfl) HS6.out ?_ ?_
  rotate_left
  · intro W hW
    have e0 := (hW.cell (cell_in HC0.out)).trans HC0.out
    go_simp
    try with_reducible rfl
  simp only [Act.put, List.setIfInBounds_toArray, List.set_cons_zero, List.set_cons_succ]
  refine heldS_take (i := 19) (v := ?_) rfl rfl (by kernel_rfl) (by kernel_rfl) (by kernel_rfl) (fun _ _ _ h => h) (by rfl) HS6.out ?_ ?_
  rotate_left
  · intro W hW
    go_simp
    try with_reducible rfl
  simp only [Act.put, List.setIfInBounds_toArray, List.set_cons_zero, List.set_cons_succ]
  refine heldS_take (i := 21) (v := ?_) rfl rfl (by kernel_rfl) (by kernel_rfl) (by kernel_rfl) (fun _ _ _ h => h) (by rfl) HS6.out ?_ ?_
  rotate_left
  · intro W hW
    go_simp
    try with_reducible rfl
  simp only [Act.put, List.setIfInBounds_toArray, List.set_cons_zero, List.set_cons_succ]
  refine heldS_take (i := 22) (v := ?_) rfl rfl (by kernel_rfl) (by kernel_rfl) (by kernel_rfl) (fun _ _ _ h => h) (by rfl) HS6.out ?_ ?_
  rotate_left
  · intro W hW
    go_simp
    try with_reducible rfl
  simp only [Act.put, List.setIfInBounds_toArray, List.set_cons_zero, List.set_cons_succ]
  refine heldS_call (i := 20) (by kernel_rfl) rfl (fun K' hK => ?_)
  go_simp
  refine hK.out _ _ (HS6.out.alloc hs6 _) ?_
  clear hK K'
  refine heldS_call (i := 23) (by kernel_rfl) rfl (fun K' hK => ?_)
  have hd := (HYz.out.drop (cap := k1) 1 (by omega) hk1).below (HS6.out.alloc hs6 (.cells #[.int .u8 ((l : Int) + 1)] 5))
  rw [if_neg hk1n] at hd
  have HD := Lib.hid hd
  clear hd
  refine step_rowG (by rfl) _ _ rfl w6.heap.size _ 1 [(l : Int) + 1] (some (a.add 1)) m1 (k1 - 1) (zs.drop 1) (row_one w6 _ (Nat.le_refl _)) rfl HD.out rfl rfl (by omega) (by simp) ?_
  intro v7 w7 hr7 hb7
  obtain ⟨A7, k7, rfl, hk7, _, hy7⟩ := hr7.bytes (by
    intro z hz
    simp only [List.cons_append, List.nil_append, List.mem_cons] at hz
    rcases hz with rfl | hz
    · omega
    · exact HYz.out.rng z (List.mem_of_mem_drop hz))
  have hS : Below W3.heap.size W3 w7 := (HS6.out.alloc hs6 _).trans (hb7.mono hs6)
  refine hK.out _ _ hS ?_
  clear hK K'
  have HS7 := Lib.hid hS
  have HY7 := Lib.hid hy7
  have hs7 := hS.size
  clear hS hr7 hb7 hy7
  refine heldS_call (i := 24) (by kernel_rfl) rfl (fun K' hK => ?_)
  go_simp
  refine (decodes_any A7 (1 + m1) k7 _ _ HY7.out hk7).mono ?_
  rintro e w8 ⟨rfl, hb8⟩
  have hS : Below W3.heap.size W3 w8 := HS7.out.trans (hb8.mono hs7)
  refine hK.out _ _ hS ?_
  clear hK K'
  have HS8 := Lib.hid hS
  clear hS hb8
  refine heldS_take (i := 25) (v := ?_) rfl rfl (by kernel_rfl) (by kernel_rfl) (by kernel_rfl) (fun _ _ _ h => h) (by rfl) HS8.out ?_ ?_
  rotate_left
  · intro W hW
    go_simp
    try with_reducible rfl
  simp only [Act.put, List.setIfInBounds_toArray, List.set_cons_zero, List.set_cons_succ]
  refine heldS_call (i := 26) (by kernel_rfl) rfl (fun K' hK => ?_)
  go_simp
  refine hK.out _ _ HS8.out ?_
  clear hK K'
  refine wpAnyH_done (by kernel_rfl) ?_ _
  go_wp2
  go_ret
  exact ⟨rfl, HGW.out.trans (HS8.out.mono HGW.out.size)⟩
theorem codes_any (l : Int) (A B : Option Addr) (n c h c2 : Nat) (cs ps : List (BitVec 64)) (w : World) (hA : Ws w A n cs) (hB : Ws w B h ps) :
    Calls Try.prog 23 #[.agg #[.int .i64 l, .slice A n c, .slice B h c2]] w fun e w' => e = .returned (.bool true) ∧ Below w.heap.size w w' := by
  cases hh : leafB (h : Int) l with
  | false => exact codes_no l A B n c h c2 cs ps w hA hB (by unfold egE; rw [hh]; simp)
  | true =>
    by_cases hn : n = 18
    · subst hn
      obtain ⟨k, rfl⟩ := Int.eq_ofNat_of_zero_le (leaf_lt hh).2.1
      exact codes_ok k h A B c c2 cs ps w hA hB hh
    · exact codes_no l A B n c h c2 cs ps w hA hB (by unfold egE; rw [hh, if_pos rfl, if_neg hn]; decide)

theorem Ws.set_cs {w : World} {b k n : Nat} {t : TypeId} {vs : List Value} {A : Option Addr} {ws : List (BitVec 64)} (h : Ws w A n ws) (hC : Cs w b t vs) (hv : ∀ (i : Nat) (x : Int), vs[i]? ≠ some (.int .u64 x)) (v : Value) : Ws (w.setCell ⟨b, k, none⟩ v) A n ws :=
  ⟨h.len, fun i hi => by
    obtain ⟨a, e, hc⟩ := h.at_ i hi
    refine ⟨a, e, ?_⟩
    have hne : (a.add i).block ≠ b := by
      intro hb
      unfold Cs at hC
      unfold World.cell? at hc
      rw [hb, hC] at hc
      simp only at hc
      split at hc
      · cases hc
      · exact hv (a.add i).off _ (by rw [← hc]; simp)
    unfold World.cell? at hc ⊢
    rw [Below.heap_setCell w ⟨b, k, none⟩ v _ hne]
    exact hc⟩
theorem and255_ (x : Int) : bits .and .i64 x 255 = x % 256 := bits_low 8 (by decide) x
theorem sig_cells {l : Int} {A B : Option Addr} {n c n2 c2 : Nat} : ∀ (i : Nat) (x : Int), ([Value.int IntKind.i64 l, Value.slice A n c, Value.slice B n2 c2] : List Value)[i]? ≠ some (Value.int IntKind.u64 x) := by
  intro i x h
  match i, h with
  | 0, h => simp at h
  | 1, h => simp at h
  | 2, h => simp at h
  | i + 3, h => simp at h
theorem sigs_b1 (l x : Int) (A B A1 : Option Addr) (n c n2 c2 n1 c1 z : Nat) (s : BitVec 64) (w : World) (h : 40 < n) :
    Calls Try.prog 9 #[.agg #[.int .i64 l, .slice A n c, .slice B n2 c2], .slice A1 n1 c1, .int .u64 (val s), .int .u8 (z : Int), .int .i64 x] w fun e w' => e = .returned (.bool true) ∧ Below w.heap.size w w' := by
  have h1 : (40 : Int) < (n : Int) := by omega
  go_enter Try.func9, Try.ntmps9
  go_wp2_with fail
  refine (awake4_any _).mono ?_
  rintro e w8 ⟨rfl, hb8⟩
  have HB8 := Lib.hid (((Below.refl w.heap.size w).alloc (Nat.le_refl _) (.cells #[.int .i64 l, .slice A n c, .slice B n2 c2] 32)).trans (hb8.mono (by simp)))
  clear hb8
  go_wp2
  go_ret
  exact ⟨rfl, HB8.out⟩
theorem sigs_b2 (l x : Int) (A B A1 : Option Addr) (n c n2 c2 n1 c1 z : Nat) (s : BitVec 64) (w : World) (h0 : n ≤ 40) (h : 20 < n2) :
    Calls Try.prog 9 #[.agg #[.int .i64 l, .slice A n c, .slice B n2 c2], .slice A1 n1 c1, .int .u64 (val s), .int .u8 (z : Int), .int .i64 x] w fun e w' => e = .returned (.bool true) ∧ Below w.heap.size w w' := by
  have h1 : (20 : Int) < (n2 : Int) := by omega
  have h2 : ¬ (40 : Int) < (n : Int) := by omega
  go_enter Try.func9, Try.ntmps9
  go_wp2_with fail
  refine (awake4_any _).mono ?_
  rintro e w8 ⟨rfl, hb8⟩
  have HB8 := Lib.hid (((Below.refl w.heap.size w).alloc (Nat.le_refl _) (.cells #[.int .i64 l, .slice A n c, .slice B n2 c2] 32)).trans (hb8.mono (by simp)))
  clear hb8
  go_wp2
  go_ret
  exact ⟨rfl, HB8.out⟩
theorem sigs_b3 (l x : Int) (A B A1 : Option Addr) (n c n2 c2 n1 c1 z : Nat) (s : BitVec 64) (w : World) (h0 : n ≤ 40) (h9 : n2 ≤ 20) (h : 400 < n1) :
    Calls Try.prog 9 #[.agg #[.int .i64 l, .slice A n c, .slice B n2 c2], .slice A1 n1 c1, .int .u64 (val s), .int .u8 (z : Int), .int .i64 x] w fun e w' => e = .returned (.bool true) ∧ Below w.heap.size w w' := by
  have h1 : (400 : Int) < (n1 : Int) := by omega
  have h2 : ¬ (40 : Int) < (n : Int) := by omega
  have h3 : ¬ (20 : Int) < (n2 : Int) := by omega
  go_enter Try.func9, Try.ntmps9
  go_wp2_with fail
  refine (awake4_any _).mono ?_
  rintro e w8 ⟨rfl, hb8⟩
  have HB8 := Lib.hid (((Below.refl w.heap.size w).alloc (Nat.le_refl _) (.cells #[.int .i64 l, .slice A n c, .slice B n2 c2] 32)).trans (hb8.mono (by simp)))
  clear hb8
  go_wp2
  go_ret
  exact ⟨rfl, HB8.out⟩
set_option maxHeartbeats 4000000 in
theorem sigs_law (l x : Int) (A B A1 : Option Addr) (n c n2 c2 n1 c1 z h N : Nat) (s : BitVec 64) (cs ps : List (BitVec 64)) (zs : List Int) (w : World) (hn : n ≤ 40) (hn2 : n2 ≤ 20) (hn1 : n1 ≤ 400) (hz : z % 4 = h) (hN : 2 ^ h = N)
    (hA : Ws w A n cs) (hB : Ws w B n2 ps) (hZ : Bytes w A1 n1 zs) (hc1 : n1 ≤ c1) :
    Calls Try.prog 9 #[.agg #[.int .i64 l, .slice A n c, .slice B n2 c2], .slice A1 n1 c1, .int .u64 (val s), .int .u8 (z : Int), .int .i64 x] w fun e w' => e = .returned (.bool true) ∧ Below w.heap.size w w' := by
  have g1 : ¬ (40 : Int) < (n : Int) := by omega
  have g2 : ¬ (20 : Int) < (n2 : Int) := by omega
  have g3 : ¬ (400 : Int) < (n1 : Int) := by omega
  have h4 : h ≤ 4 := by omega
  have hzI : (z : Int) % 4 = (h : Int) := by omega
  have hwr := wrap_pow h h4
  have hp := pow_le h h4
  rw [hN] at hwr hp
  have hN0 : ¬ (N : Int) = 0 := by omega
  obtain ⟨q, hq⟩ := Int.eq_ofNat_of_zero_le (Int.emod_nonneg (x / 16777216) (b := 256) (by decide))
  have hqa : bits .and .i64 (x / 16777216) 255 = (q : Int) := (and255_ _).trans hq
  obtain ⟨i, hi⟩ : ∃ i : Nat, q % N = i := ⟨_, rfl⟩
  have hiN : i < N := by rw [← hi]; exact Nat.mod_lt _ (by omega)
  have hiI : (q : Int) % (N : Int) = (i : Int) := by rw [← hi]; simp
  have htm : (q : Int).tmod (N : Int) = (i : Int) := by rw [← hiI]; exact Int.tmod_eq_emod_of_nonneg (by omega)
  have hct := fun W => signRT_ok s 5#64 h i h4 (by rw [hN]; exact hiN) W
  rw [show val 5#64 = 5 by decide] at hct
  have HCT := Lib.hid hct
  have hb0 := (Below.refl w.heap.size w).alloc (Nat.le_refl _) (.cells #[.int .i64 l, .slice A n c, .slice B n2 c2] 32)
  have HA := Lib.hid hA
  have HP := Lib.hid hB
  have HZ := Lib.hid hZ
  have HB0 := Lib.hid hb0
  clear hi hiN hiI hq hct hN hA hB hZ hb0 hz
  go_enter Try.func9, Try.ntmps9
  go_wp2_with fail
  refine (HCT.out _).mono ?_
  rintro e w2 ⟨A2, k2, B2, d2, rfl, hA2, hP2, hb2⟩
  have hk2 := (Cs.new w 32 [.int .i64 l, .slice A n c, .slice B n2 c2]).below hb2 (by simp)
  have HB2 := Lib.hid (HB0.out.trans (hb2.mono HB0.out.size))
  have hg := (Below.refl w2.heap.size w2).alloc (Nat.le_refl _) (.cells #[.int .i64 (i : Int), .slice A2 18 k2, .slice B2 h d2] 32)
  have HA2 := Lib.hid (hA2.below hg)
  have HP2 := Lib.hid (hP2.below hg)
  have hwlt := hk2.lt
  have HK2 := Lib.hid (hk2.grow (.cells #[.int .i64 (i : Int), .slice A2 18 k2, .slice B2 h d2] 32))
  have HS2 := Lib.hid (Cs.new w2 32 [.int .i64 (i : Int), .slice A2 18 k2, .slice B2 h d2])
  have HBa := Lib.hid (HB2.out.alloc HB2.out.size (.cells #[.int .i64 (i : Int), .slice A2 18 k2, .slice B2 h d2] 32))
  have s0 := HS2.out.cell 0
  have s1 := HS2.out.cell 1
  have s2 := HS2.out.cell 2
  simp only [List.getElem?_cons_succ, List.getElem?_cons_zero] at s0 s1 s2
  clear hk2 hb2 hg hA2 hP2
  go_wp2_with fail
  refine (spoil4_any (i : Int) x A2 B2 h k2 d2 _ _ _ HA2.out HP2.out h4).mono ?_
  rintro e w3 ⟨L', A', B', n', c', n2', c2', cs', ps', rfl, hA', hP', _, _, hb3⟩
  have HK3 := Lib.hid (HK2.out.below hb3 HK2.out.lt)
  have hS3 := HS2.out.below hb3 HS2.out.lt
  have HB3 := Lib.hid (HBa.out.trans (hb3.mono HBa.out.size))
  have r0 := hS3.cell 0
  have r1 := hS3.cell 1
  have r2 := hS3.cell 2
  have f0 := hS3.free 0
  have f1 := hS3.free 1
  have f2 := hS3.free 2
  simp only [List.getElem?_cons_succ, List.getElem?_cons_zero] at r0 r1 r2
  have HS3 := Lib.hid hS3
  have HA3' := Lib.hid hA'
  have HP3' := Lib.hid hP'
  have k0 := (HK3.out.far_set 0 (.int .i64 L') (show w.heap.size ≠ w2.heap.size by omega)).far_set 1 (.slice A' n' c') (show w.heap.size ≠ w2.heap.size by omega)
  have k3 := k0.far_set 2 (.slice B' n2' c2') (show w.heap.size ≠ w2.heap.size by omega)
  have q0 := k3.cell 0
  have q1 := k3.cell 1
  have q2 := k3.cell 2
  simp only [List.getElem?_cons_succ, List.getElem?_cons_zero] at q0 q1 q2
  clear s0 s1 s2 hb3 hA' hP' hS3 k0 k3
  go_wp2_with fail
  obtain ⟨W4, hW4⟩ : ∃ W4, ((w3.setCell ⟨w2.heap.size, 0, none⟩ (.int .i64 L')).setCell ⟨w2.heap.size, 1, none⟩ (.slice A' n' c')).setCell ⟨w2.heap.size, 2, none⟩ (.slice B' n2' c2') = W4 := ⟨_, rfl⟩
  have hS4a : Cs _ w2.heap.size 32 [.int .i64 L', .slice A2 18 k2, .slice B2 h d2] := HS3.out.set_ 0 (.int .i64 L')
  have hS4b : Cs _ w2.heap.size 32 [.int .i64 L', .slice A' n' c', .slice B2 h d2] := hS4a.set_ 1 (.slice A' n' c')
  have hS4 : Cs _ w2.heap.size 32 [.int .i64 L', .slice A' n' c', .slice B' n2' c2'] := hS4b.set_ 2 (.slice B' n2' c2')
  have hA4' := ((HA3'.out.set_cs HS3.out sig_cells (.int .i64 L')).set_cs hS4a sig_cells (.slice A' n' c')).set_cs hS4b sig_cells (.slice B' n2' c2') (k := 2)
  have hP4' := ((HP3'.out.set_cs HS3.out sig_cells (.int .i64 L')).set_cs hS4a sig_cells (.slice A' n' c')).set_cs hS4b sig_cells (.slice B' n2' c2') (k := 2)
  have hB4 := ((HB3.out.setCell (p := ⟨w2.heap.size, 0, none⟩) (Nat.le_of_lt hwlt) (.int .i64 L')).setCell (p := ⟨w2.heap.size, 1, none⟩) (Nat.le_of_lt hwlt) (.slice A' n' c')).setCell (p := ⟨w2.heap.size, 2, none⟩) (Nat.le_of_lt hwlt) (.slice B' n2' c2')
  rw [hW4] at hS4 hA4' hP4' hB4 ⊢
  clear hS4a hS4b hW4 q0 q1 q2 r0 r1 r2 f0 f1 f2
  have HA4 := Lib.hid (HA.out.below hB4)
  have HP4 := Lib.hid (HP.out.below hB4)
  have HZ4 := Lib.hid (HZ.out.below hB4)
  have HA4' := Lib.hid hA4'
  have HP4' := Lib.hid hP4'
  have HS4 := Lib.hid hS4
  have HB4 := Lib.hid hB4
  clear hS4 hA4' hP4' hB4
  refine (codes_any l A B n c n2 c2 cs ps W4 HA4.out HP4.out).mono ?_
  rintro e w5 ⟨rfl, hb5⟩
  have hS5 := HS4.out.below hb5 HS4.out.lt
  have HA5' := Lib.hid (HA4'.out.below hb5)
  have HP5' := Lib.hid (HP4'.out.below hb5)
  have HZ5 := Lib.hid (HZ4.out.below hb5)
  have HB5 := Lib.hid (HB4.out.trans (hb5.mono HB4.out.size))
  have t0 := hS5.cell 0
  have t1 := hS5.cell 1
  have t2 := hS5.cell 2
  simp only [List.getElem?_cons_succ, List.getElem?_cons_zero] at t0 t1 t2
  clear hS5 hb5
  go_wp2_with fail
  refine (codes_any L' A' B' n' c' n2' c2' cs' ps' w5 HA5'.out HP5'.out).mono ?_
  rintro e w6 ⟨rfl, hb6⟩
  have HZ6 := Lib.hid (HZ5.out.below hb6)
  have HB6 := Lib.hid (HB5.out.trans (hb6.mono HB5.out.size))
  clear hb6 t0 t1 t2
  go_wp2_with fail
  refine (decodes_any A1 n1 c1 zs w6 HZ6.out hc1).mono ?_
  rintro e w7 ⟨rfl, hb7⟩
  have HB7 := Lib.hid (HB6.out.trans (hb7.mono HB6.out.size))
  clear hb7
  go_wp2_with fail
  refine (awake4_any _).mono ?_
  rintro e w8 ⟨rfl, hb8⟩
  have HB8 := Lib.hid (HB7.out.trans (hb8.mono HB7.out.size))
  clear hb8
  go_wp2
  go_ret
  exact ⟨rfl, HB8.out⟩
theorem signatures_law_at (l : Int) (A B : Option Addr) (n c n2 c2 : Nat) (cs ps : List (BitVec 64)) (A1 : Option Addr) (n1 c1 : Nat) (zs : List Int) (w : World) (hA : Ws w A n cs) (hB : Ws w B n2 ps) (hZ : Bytes w A1 n1 zs) (hc1 : n1 ≤ c1)
    (s z x : Int) (hs : 0 ≤ s ∧ s ≤ 18446744073709551615) (hz : 0 ≤ z ∧ z ≤ 255) :
    Calls Try.prog 9 #[.agg #[.int .i64 l, .slice A n c, .slice B n2 c2], .slice A1 n1 c1, .int .u64 s, .int .u8 z, .int .i64 x] w fun e w' => e = .returned (.bool true) ∧ Below w.heap.size w w' := by
  rw [val_of hs.1 hs.2]
  obtain ⟨Z, rfl⟩ := Int.eq_ofNat_of_zero_le hz.1
  by_cases h1 : 40 < n
  · exact sigs_b1 l x A B A1 n c n2 c2 n1 c1 Z _ w h1
  · by_cases h2 : 20 < n2
    · exact sigs_b2 l x A B A1 n c n2 c2 n1 c1 Z _ w (by omega) h2
    · by_cases h3 : 400 < n1
      · exact sigs_b3 l x A B A1 n c n2 c2 n1 c1 Z _ w (by omega) (by omega) h3
      · exact sigs_law l x A B A1 n c n2 c2 n1 c1 Z _ _ _ cs ps zs w (by omega) (by omega) (by omega) rfl rfl hA hB hZ hc1
end Go.Proofs.Ythgahjihgoiklaa
