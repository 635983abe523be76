import Derived.Test.YtepinmeidjlmmaaDoorA4
import Derived.Lib.BytesEntry
namespace Go.Proofs.YtepinmeidjlmmaaDoor
open Go.RowKit

def cmpI (a b : Int) : Int := if a < b then -1 else if b < a then 1 else 0
theorem cmpI_lt {a b : Int} (h : a < b) : cmpI a b = -1 := by simp [cmpI, h]
theorem cmpI_gt {a b : Int} (h : b < a) : cmpI a b = 1 := by simp only [cmpI]; rw [if_neg (by omega), if_pos h]
theorem cmpI_eq {a b : Int} (h : b ≤ a) (h2 : a ≤ b) : cmpI a b = 0 := by simp only [cmpI]; rw [if_neg (by omega), if_neg (by omega)]

set_option maxRecDepth 100000 in
set_option maxHeartbeats 400000 in
theorem cmpInt_any (a b : Int) (w : World) : Calls Tryd.prog 90 #[.int .i64 a, .int .i64 b] w fun e w' => e = .returned (.int .i64 (cmpI a b)) ∧ w = w' := by
  go_enter Tryd.func90, Tryd.ntmps90
  go_wp2
  all_goals go_ret
  · exact ⟨ret_int (cmpI_lt (by assumption)).symm, rfl⟩
  · exact ⟨ret_int (cmpI_gt (by assumption)).symm, rfl⟩
  · exact ⟨ret_int (cmpI_eq (by assumption) (by assumption)).symm, rfl⟩

theorem run_bytesOf_row {P : Program} (w : World) (g n c : Nat) (xs : List Int) (hx : xs.length = n) (hc : ∀ i, i < n → w.cell? ⟨g, i, none⟩ = some (.int .u8 (xs.getD i 0))) :
    (Extern.Bytes.bytesOf (.slice (some ⟨g, 0, none⟩) n c)).run P w = .ok ⟨(Lib.bytesOf xs).toArray⟩ w := by
  have hl := Lib.run_loadBytesX (P := P) w xs ⟨g, 0, none⟩ .empty (fun j x hj => by
    have hjl : j < xs.length := (List.getElem?_eq_some_iff.1 hj).1
    have e : (⟨g, 0, none⟩ : Addr).add j = ⟨g, j, none⟩ := by unfold Addr.add; split <;> simp_all
    rw [e, hc j (by omega), List.getD_eq_getElem?_getD, hj]
    rfl)
  rw [hx] at hl
  have he : (⟨ByteArray.empty.data ++ (Lib.bytesOf xs).toArray⟩ : ByteArray) = ⟨(Lib.bytesOf xs).toArray⟩ := by
    apply ByteArray.ext
    show (#[] : Array UInt8) ++ (Lib.bytesOf xs).toArray = (Lib.bytesOf xs).toArray
    simp
  rw [he] at hl
  exact hl

def cmpB (xs ys : List Int) : Int := Lib.compareBytes (Lib.bytesOf xs) (Lib.bytesOf ys)

set_option maxRecDepth 100000 in
set_option maxHeartbeats 400000 in
theorem bytesCmp_any (g n c g2 n2 c2 : Nat) (xs ys : List Int) (w : World) (hx : xs.length = n) (hy : ys.length = n2)
    (hc : ∀ i, i < n → w.cell? ⟨g, i, none⟩ = some (.int .u8 (xs.getD i 0))) (hc2 : ∀ i, i < n2 → w.cell? ⟨g2, i, none⟩ = some (.int .u8 (ys.getD i 0))) :
    Calls Tryd.prog 91 #[.slice (some ⟨g, 0, none⟩) n c, .slice (some ⟨g2, 0, none⟩) n2 c2] w fun e w' => e = .returned (.int .i64 (cmpB xs ys)) ∧ w = w' := by
  have h1 := run_bytesOf_row (P := Tryd.prog) w g n c xs hx hc
  have h2 := run_bytesOf_row (P := Tryd.prog) w g2 n2 c2 ys hy hc2
  have hr : (Extern.BytealgCompare.compare #[.slice (some ⟨g, 0, none⟩) n c, .slice (some ⟨g2, 0, none⟩) n2 c2]).run Tryd.prog w = .ok (.int .i64 (cmpB xs ys)) w := by
    change Sem.run Tryd.prog (do pure (goInt (Extern.BytealgCompare.cmp (← Extern.Bytes.bytesOf (.slice (some ⟨g, 0, none⟩) n c)) (← Extern.Bytes.bytesOf (.slice (some ⟨g2, 0, none⟩) n2 c2))))) w = _
    simp only [Sem.run_bind, Sem.run_pure, Result.andThen, h1, h2]
    rw [Lib.cmp_eq]
    rfl
  have HR := Lib.hid hr
  clear hr h1 h2 hc hc2 hx hy
  go_enter Tryd.func91, Tryd.ntmps91
  go_wp2
  rw [run_callFunc_extern Tryd.func103 (by kernel_rfl) (by kernel_rfl) (by kernel_rfl) (e := Extern.BytealgCompare.compare) (by kernel_rfl), HR.out]
  simp only [Result.andThen]
  rw [Oper.upon_value]
  go_wp2
  go_ret
  exact ⟨rfl, rfl⟩

def orI (a b : Int) : Int := if a = 0 then b else a
theorem orI_l {a b : Int} (h : ¬ a = 0) : orI a b = a := by simp [orI, h]
theorem orI_r {a b : Int} (h : a = 0) : orI a b = b := by simp [orI, h]
set_option maxRecDepth 100000 in
set_option maxHeartbeats 400000 in
theorem or_any (B : Nat) (a b : Int) (w : World) (h0 : w.cell? ⟨B, 0, none⟩ = some (.int .i64 a)) (h1 : w.cell? ⟨B, 1, none⟩ = some (.int .i64 b)) :
    Calls Tryd.prog 89 #[.slice (some ⟨B, 0, none⟩) 2 2] w fun e w' => e = .returned (.int .i64 (orI a b)) ∧ w = w' := by
  by_cases ha : a = 0
  · rw [orI_r ha]
    subst ha
    by_cases hb : b = 0
    · subst hb
      go_enter Tryd.func89, Tryd.ntmps89
      go_wp2
      go_loop [8] (fun i => ∃ k : Nat, k ≤ 2 ∧ i = .int .i64 k) (fun i => 2 - (intOf i).toNat)
      case atStart => exact ⟨0, by omega, rfl⟩
      case round =>
        obtain ⟨k, hk, rfl⟩ := hrel
        have hk3 : k = 0 ∨ k = 1 ∨ k = 2 := by omega
        rcases hk3 with rfl | rfl | rfl
        · go_wp2
          go_round
          case rel => exact ⟨1, by omega, rfl⟩
          case measure => simp [intOf]
        · go_wp2
          go_round
          case rel => exact ⟨2, by omega, rfl⟩
          case measure => simp [intOf]
        · go_wp2
          go_ret
          exact ⟨rfl, rfl⟩
    · have hbb : (b != 0) = true := by rw [bne_iff_ne]; exact hb
      clear hb
      go_enter Tryd.func89, Tryd.ntmps89
      go_wp2
      go_loop [8] (fun i => ∃ k : Nat, k ≤ 1 ∧ i = .int .i64 k) (fun i => 2 - (intOf i).toNat)
      case atStart => exact ⟨0, by omega, rfl⟩
      case round =>
        obtain ⟨k, hk, rfl⟩ := hrel
        have hk3 : k = 0 ∨ k = 1 := by omega
        rcases hk3 with rfl | rfl
        · go_wp2
          go_round
          case rel => exact ⟨1, by omega, rfl⟩
          case measure => simp [intOf]
        · go_wp2
          go_ret
          exact ⟨rfl, rfl⟩
  · rw [orI_l ha]
    have haa : (a != 0) = true := by rw [bne_iff_ne]; exact ha
    clear ha
    go_enter Tryd.func89, Tryd.ntmps89
    go_wp2
    go_loop [8] (fun i => i = .int .i64 0) (fun i => 2 - (intOf i).toNat)
    case atStart => exact rfl
    case round =>
      obtain rfl := hrel
      go_wp2
      go_ret
      exact ⟨rfl, rfl⟩

theorem or_new (a b : Int) (t : TypeId) (w : World) :
    Calls Tryd.prog 89 #[.slice (some ⟨w.heap.size, 0, none⟩) 2 2] (w.alloc (.cells #[.int .i64 a, .int .i64 b] t)) fun e w' => e = .returned (.int .i64 (orI a b)) ∧ w.alloc (.cells #[.int .i64 a, .int .i64 b] t) = w' :=
  or_any _ a b _ (by simp) (by simp)

/-- the encoding of one item onto nil: a new row -/
theorem appendItem_nil (k n : Int) (d : ByteArray) (w : World) (ht : TzTab w) (hn0 : 0 ≤ n) (hk0 : 1 ≤ k) (hk1 : k ≤ 8) (h7 : k = 7 → n ≤ 1) (hd : d.size ≤ 1100) :
    Calls Tryd.prog 37 #[.slice none 0 0, itemV k n d] w fun e w' => ∃ v, e = .returned v ∧ w'.ownsRow w.heap.size 5 1 v (encItem k n d).length (bv (encItem k n d)) ∧ Below w.heap.size w w' := by
  refine (appendItem_any w.heap.size k n d (.slice none 0 0) 0 [] w ht (World.ownsRow_nil _ _ _ _) (Nat.le_refl _) (by omega) hn0 hk0 hk1 h7 hd).mono ?_
  rintro e w' ⟨v, rfl, ho, hb, _⟩
  exact ⟨v, rfl, by simpa using ho, hb⟩

theorem encItem_pos (k n : Int) (d : ByteArray) : 0 < (encItem k n d).length := by
  unfold encItem; split
  · simp
  · split
    · simp
    · have : 0 < (encHead (k - 1) (argN k n d)).length := by
        unfold encHead; split; · simp
        split; · simp
        split; · simp
        split <;> simp
      simp; omega

theorem encItem_len (k n : Int) (d : ByteArray) : (encItem k n d).length ≤ 10 + d.size := by
  unfold encItem; split
  · simp; omega
  · split
    · simp; omega
    · have := encHead_len (k - 1) (argN k n d)
      simp [dataI_len]; omega
theorem own_slice {w : World} {base n : Nat} {v : Value} {xs : List Value} (h : w.ownsRow base 5 1 v n xs) (hn : 0 < n) : ∃ g cap, v = .slice (some ⟨g, 0, none⟩) n cap ∧ base ≤ g ∧ g < w.heap.size := by
  have hl := h.lt
  obtain ⟨_, h2⟩ := h
  rcases h2 with ⟨_, h1⟩ | ⟨g, cap, cur, rfl, hg, _⟩
  · omega
  · exact ⟨g, cap, rfl, hg, (hl g rfl).2⟩
theorem own_cells {w : World} {base g n cap : Nat} {l : List Int} (h : w.ownsRow base 5 1 (.slice (some ⟨g, 0, none⟩) n cap) n (bv l)) : ∀ i, i < n → w.cell? ⟨g, i, none⟩ = some (.int .u8 (l.getD i 0)) := by
  intro i hi
  have hl : l.length = n := by have := h.1; simpa [bv] using this
  rw [h.cellAt i (by omega), bv, List.getElem?_map, List.getD_eq_getElem?_getD, List.getElem?_eq_getElem (by omega)]
  rfl
theorem own_below {w w' : World} {base e size n : Nat} {v : Value} {xs : List Value} (h : w.ownsRow base e size v n xs) (hb : Below w.heap.size w w') : w'.ownsRow base e size v n xs :=
  h.kept (row := none) ⟨hb.os, hb.tape, hb.output, hb.size, fun k hk _ => hb.block k hk⟩ (by
    cases hv : v.ownBlock with
    | none => exact .inl rfl
    | some g => exact .inr (by simp))

theorem heap_new3 (w : World) (o o2 : Obj) : ((w.alloc o).alloc o2).heap[w.heap.size + 1]? = some o2 := by
  have h := heap_new (w.alloc o) o2
  rw [show (w.alloc o).heap.size = w.heap.size + 1 from by simp] at h
  exact h

def CmpS (B : Nat) (k1 n1 : Int) (d1 : ByteArray) (k2 n2 : Int) (d2 : ByteArray) (W : World) : Prop :=
  TzTab W ∧ W.heap[B]? = some (.cells (itemCs k1 n1 d1) 58 (0, 0)) ∧ W.heap[B + 1]? = some (.cells (itemCs k2 n2 d2) 58 (0, 0)) ∧
  W.cell? ⟨B, 0, none⟩ = some (.int .i64 k1) ∧ W.cell? ⟨B, 1, none⟩ = some (.int .u64 n1) ∧ W.cell? ⟨B, 2, none⟩ = some (.string d1) ∧
  W.cell? ⟨B + 1, 0, none⟩ = some (.int .i64 k2) ∧ W.cell? ⟨B + 1, 1, none⟩ = some (.int .u64 n2) ∧ W.cell? ⟨B + 1, 2, none⟩ = some (.string d2)
theorem CmpS.mk' {B : Nat} {k1 n1 : Int} {d1 : ByteArray} {k2 n2 : Int} {d2 : ByteArray} {W : World} (t : TzTab W) (h1 : W.heap[B]? = some (.cells (itemCs k1 n1 d1) 58 (0, 0))) (h2 : W.heap[B + 1]? = some (.cells (itemCs k2 n2 d2) 58 (0, 0))) : CmpS B k1 n1 d1 k2 n2 d2 W :=
  ⟨t, h1, h2, cell_of_block h1 rfl, cell_of_block h1 rfl, cell_of_block h1 rfl, cell_of_block h2 rfl, cell_of_block h2 rfl, cell_of_block h2 rfl⟩
theorem CmpS.step {B : Nat} {k1 n1 : Int} {d1 : ByteArray} {k2 n2 : Int} {d2 : ByteArray} {W W' : World} (h : CmpS B k1 n1 d1 k2 n2 d2 W) (hb : Below W.heap.size W W') : CmpS B k1 n1 d1 k2 n2 d2 W' := by
  have hlt : ∀ {i : Nat} {o : Obj}, W.heap[i]? = some o → i < W.heap.size := fun {i o} h => by
    rcases Nat.lt_or_ge i W.heap.size with h' | h'
    · exact h'
    · rw [Array.getElem?_eq_none h'] at h; cases h
  exact CmpS.mk' (h.1.below hb h.1.hs) ((hb.block _ (hlt h.2.1)).trans h.2.1) ((hb.block _ (hlt h.2.2.1)).trans h.2.2.1)

def cmpEnc (a b : List Int) : Int := orI (cmpI a.length b.length) (cmpB a b)

set_option maxRecDepth 100000 in
set_option maxHeartbeats 1000000 in
theorem cmpEnc_any (k1 n1 : Int) (d1 : ByteArray) (k2 n2 : Int) (d2 : ByteArray) (w : World) (ht : TzTab w)
    (hn0 : 0 ≤ n1) (hk0 : 1 ≤ k1) (hk1 : k1 ≤ 8) (h7 : k1 = 7 → n1 ≤ 1) (hd : d1.size ≤ 1100) (hn02 : 0 ≤ n2) (hk02 : 1 ≤ k2) (hk12 : k2 ≤ 8) (h72 : k2 = 7 → n2 ≤ 1) (hd2 : d2.size ≤ 1100) :
    Calls Tryd.prog 79 #[itemV k1 n1 d1, itemV k2 n2 d2] w fun e w' => e = .returned (.int .i64 (cmpEnc (encItem k1 n1 d1) (encItem k2 n2 d2))) ∧ Below w.heap.size w w' := by
  have C1 := fun (W : World) (hW : TzTab W) => appendItem_nil k1 n1 d1 W hW hn0 hk0 hk1 h7 hd
  have C2 := fun (W : World) (hW : TzTab W) => appendItem_nil k2 n2 d2 W hW hn02 hk02 hk12 h72 hd2
  have H1 := Lib.hid C1
  have H2 := Lib.hid C2
  have S0 : CmpS w.heap.size k1 n1 d1 k2 n2 d2 ((w.alloc (.cells #[.int .i64 k1, .int .u64 n1, .string d1] 58)).alloc (.cells #[.int .i64 k2, .int .u64 n2, .string d2] 58)) :=
    CmpS.mk' (ht.below (((Below.refl _ w).alloc (Nat.le_refl _) _).alloc (by simp) _) ht.hs) (heap_new2 _ _ _) (heap_new3 _ _ _)
  have HS0 := Lib.hid S0
  have HT := Lib.hid ht
  clear C1 C2 S0 ht h7 h72
  unfold itemV
  go_enter Tryd.func79, Tryd.ntmps79
  go_wp2_with fail
  go_region_held3 (fun W => TzTab W ∧ W.heap[w.heap.size]? = some (.cells (itemCs k1 n1 d1) 58 (0, 0)) ∧ W.heap[w.heap.size + 1]? = some (.cells (itemCs k2 n2 d2) 58 (0, 0)) ∧ W.cell? ⟨w.heap.size, 0, none⟩ = some (.int .i64 k1) ∧ W.cell? ⟨w.heap.size, 1, none⟩ = some (.int .u64 n1) ∧ W.cell? ⟨w.heap.size, 2, none⟩ = some (.string d1) ∧ W.cell? ⟨w.heap.size + 1, 0, none⟩ = some (.int .i64 k2) ∧ W.cell? ⟨w.heap.size + 1, 1, none⟩ = some (.int .u64 n2) ∧ W.cell? ⟨w.heap.size + 1, 2, none⟩ = some (.string d2))
    (first | (exact CmpS.step HS0.out (Below.refl _ _).drew) | (exact CmpS.step (by assumption) (by assumption)))
    (first | (go_at_call 37; (with_reducible refine (H1.out _ (And.left (by assumption))).mono ?_); rintro e w1 ⟨v1, rfl, ho1, hb1⟩) | (go_at_call 37; (with_reducible refine (H2.out _ (And.left (by assumption))).mono ?_); rintro e w2 ⟨v2, rfl, ho2, hb2⟩))
  have p1 := encItem_pos k1 n1 d1
  have p2 := encItem_pos k2 n2 d2
  obtain ⟨g1, cap1, rfl, hg1, hl1⟩ := own_slice ho1 p1
  obtain ⟨g2, cap2, rfl, hg2, hl2⟩ := own_slice ho2 p2
  have cc1 := own_cells (own_below ho1 hb2)
  have cc2 := own_cells ho2
  have L1 := encItem_len k1 n1 d1
  have L2 := encItem_len k2 n2 d2
  have HC := fun (wx : World) (hx : Below w2.heap.size w2 wx) => bytesCmp_any g1 _ cap1 g2 _ cap2 (encItem k1 n1 d1) (encItem k2 n2 d2) wx rfl rfl (fun i hi => (hx.cell (p := ⟨g1, i, none⟩) (by have := hb2.size; show g1 < _; omega)).trans (cc1 i hi)) (fun i hi => (hx.cell (p := ⟨g2, i, none⟩) (by show g2 < _; omega)).trans (cc2 i hi))
  have HCc := Lib.hid HC
  have HO1 := Lib.hid ho1
  have HO2 := Lib.hid ho2
  go_split_ands
  clear HC cc1 cc2 ho1 ho2
  go_wp2_with (first | (go_at_call 90; refine (cmpInt_any _ _ _).mono ?_; rintro e w' ⟨rfl, rfl⟩) | (go_at_call 91; refine (HCc.out _ (Below.refl _ _)).mono ?_; rintro e w' ⟨rfl, rfl⟩) | (go_at_call 89; refine (or_new _ _ _ _).mono ?_; rintro e w' ⟨rfl, rfl⟩))
  go_ret
  exact ⟨rfl, by
    have h0 : Below w.heap.size w ((w.alloc (.cells #[.int .i64 k1, .int .u64 n1, .string d1] 58)).alloc (.cells #[.int .i64 k2, .int .u64 n2, .string d2] 58)).drew := (((Below.refl _ w).alloc (Nat.le_refl _) _).alloc (by simp) _).drew
    have s0 := h0.size
    have h1 := h0.trans (hb1.mono s0)
    have h2 := h1.trans (hb2.mono h1.size)
    exact h2.alloc h2.size _⟩
end Go.Proofs.YtepinmeidjlmmaaDoor
