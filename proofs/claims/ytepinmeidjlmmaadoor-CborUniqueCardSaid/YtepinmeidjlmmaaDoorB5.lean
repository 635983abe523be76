import Derived.Test.YtepinmeidjlmmaaDoorB4
namespace Go.Proofs.YtepinmeidjlmmaaDoor
open Go.RowKit

def valAllE : List (List It) → Int
  | [] => 0
  | l :: r => if validE l = 0 then valAllE r else validE l
theorem valAll_yes {l : List It} {r : List (List It)} (h : validE l = 0) : valAllE (l :: r) = valAllE r := by simp [valAllE, h]
theorem valAll_no {l : List It} {r : List (List It)} (h : ¬ validE l = 0) : valAllE (l :: r) = validE l := by simp [valAllE, h]
theorem itemsAt_mono {w : World} {B B' : Nat} {v : Value} {l : List It} (h : ItemsAt w B v l) (hB : B ≤ B') : ItemsAt w B' v l :=
  ⟨by
    rcases h.form with h0 | ⟨b, off, cap, hv, hlt, hc⟩
    · exact .inl h0
    · exact .inr ⟨b, off, cap, hv, Nat.lt_of_lt_of_le hlt hB, hc⟩, h.ok, h.len⟩
theorem drop_at' {α : Type} {l : List α} {j : Nat} (h : j < l.length) : l.drop j = l[j] :: l.drop (j + 1) := List.drop_eq_getElem_cons h

set_option maxRecDepth 100000 in
set_option maxHeartbeats 1000000 in
theorem validateAll_any (cb cap : Nat) (ls : List (List It)) (w : World) (hV : ValsAt w w.heap.size cb ls) (ht : Tabs w) (hn : ls.length ≤ 1000000) :
    Calls Tryd.prog 50 #[.slice (some ⟨cb, 0, none⟩) ls.length cap] w fun e w' => e = .returned (.int .i64 (valAllE ls)) ∧ Below w.heap.size w w' := by
  have HV := Lib.hid hV
  have HT := Lib.hid ht
  clear hV ht
  go_enter Tryd.func50, Tryd.ntmps50
  go_wp2_with fail
  go_loopw [8] (fun i wr => ∃ j : Nat, j ≤ ls.length ∧ i = .int .i64 j ∧ Below w.heap.size w wr ∧ valAllE (ls.drop j) = valAllE ls) (fun i _ => ls.length - (intOf i).toNat)
  case atStart => exact ⟨0, by omega, rfl, Below.refl _ _, rfl⟩
  case round =>
    obtain ⟨j, hj, rfl, hb, hgo⟩ := hrel
    have HB := Lib.hid hb
    have HGO := Lib.hid hgo
    have hsz := hb.size
    clear hb hgo
    by_cases hlt : j < ls.length
    · obtain ⟨b, off, c2, hc, hI⟩ := HV.out.cell j hlt
      have q := (HB.out.cell (p := ⟨cb, j, none⟩) HV.out.lt).trans hc
      have hC := validate_any ls[j] _ wr (itemsAt_mono (hI.below HB.out) hsz) (HT.out.later HB.out)
      have HC := Lib.hid hC
      have hdr := drop_at' hlt
      have HDR := Lib.hid hdr
      have hlj := hI.len
      clear hC hI hc hdr
      by_cases hz : validE ls[j] = 0
      · have hzb : (validE ls[j] != 0) = false := by simp [hz]
        have HZ := Lib.hid hz
        clear hz
        go_wp2_with (go_at_call 18; refine HC.out.mono ?_; rintro e w1 ⟨rfl, hb1⟩)
        go_roundw
        case rel => exact ⟨j + 1, by omega, by go_num, HB.out.trans (hb1.mono hsz), by rw [← HGO.out, HDR.out, valAll_yes HZ.out]⟩
        case measure => simp [intOf]; omega
      · have hzb : (validE ls[j] != 0) = true := by simp [hz]
        have hv : valAllE ls = validE ls[j] := by rw [← HGO.out, HDR.out, valAll_no hz]
        have HVV := Lib.hid hv
        clear hz hv
        go_wp2_with (go_at_call 18; refine HC.out.mono ?_; rintro e w1 ⟨rfl, hb1⟩)
        go_ret
        exact ⟨ret_int HVV.out.symm, HB.out.trans (hb1.mono hsz)⟩
    · have hjl : j = ls.length := by omega
      have hv : valAllE ls = 0 := by rw [← HGO.out, hjl, List.drop_length]; rfl
      have HVV := Lib.hid hv
      clear hv hjl
      go_wp2
      go_ret
      exact ⟨ret_int HVV.out.symm, HB.out⟩

theorem BoxS.stepB {B B' : Nat} {k n : Int} {d : ByteArray} {W W' : World} (h : BoxS B k n d W) (hb : Below B' W W') (hB : B < B') : BoxS B k n d W' := BoxS.mk' ((hb.block _ hB).trans h.1)

/-- append(a, s...) of items, as one step of a region -/
theorem step_items {ops : Array Oper} {o : Oper} {a : Act} {W : World} {K : Act → World → Prop} {Q : Exit → Act → World → Prop} {E : Prop} (hgd : o.guard = none) (s x : Operand)
    (ho : o.op = .call { callee := .builtin .append, args := #[s, x], argTypes := #[22, 22] })
    (base : Nat) (v : Value) (n : Nat) (xs : List It) (l : List It) (B b off cap : Nat) (hown : W.ownsRow base 58 3 v n (itCells xs)) (hs : a.eval s = v)
    (hI : ItemsAt W B (.slice (some ⟨b, off, none⟩) l.length cap) l) (hx : a.eval x = .slice (some ⟨b, off, none⟩) l.length cap) (hne : l ≠ []) (hn : n ≤ 1000000) (hl : l.length ≤ 1000000) (hb : base ≤ W.heap.size)
    (h : ∀ v' w', w'.ownsRow base 58 3 v' (n + l.length) (itCells (xs ++ l)) → Below base W w' → K (a.put o.dst v') w') :
    if Region.wanted o (yielded ops a.tmps) = true then Oper.wp Tryd.prog o a W K Q else E := by
  have hw : Region.wanted o (yielded ops a.tmps) = true := by simp [Region.wanted, hgd]
  rw [if_pos hw]
  obtain ⟨i0, hi, hz0, hz1, hz2⟩ := info_parts info58
  refine wp_append_own W s x 22 ho base 58 i0 _ 3 32 Tryd.underlying22 hi hz0 hz1 hz2 rfl (by decide) v n _ hs hown ⟨b, off, none⟩ l.length cap (itCells l) hx (itCells_len l) (itemsAt_src hI hne).2 (itCells_one l) (by unfold maxLen; omega) (by omega) hb ?_
  intro v' w' h1 h2 _
  rw [← itCells_app] at h1
  exact h v' w' h1 (below_of_grown hown hb h2)

theorem own_lit (w : World) (k n : Int) (d : ByteArray) (base : Nat) (hb : base ≤ w.heap.size) : (w.alloc (.cells #[.int .i64 k, .int .u64 n, .string d] 58)).ownsRow base 58 3 (.slice (some ⟨w.heap.size, 0, none⟩) 1 1) 1 (itCells [⟨k, n, d⟩]) :=
  World.ownsRow_lit w #[.int .i64 k, .int .u64 n, .string d] 1 hb (by decide) rfl

theorem own_lit2 (w : World) (k n : Int) (d : ByteArray) : ((w.alloc (.cells #[.int .i64 k, .int .u64 n, .string d] 58)).alloc (.cells #[.int .i64 k, .int .u64 n, .string d] 58)).ownsRow (w.heap.size + 1) 58 3 (.slice (some ⟨w.heap.size + 1, 0, none⟩) 1 1) 1 (itCells [⟨k, n, d⟩]) := by
  have h := own_lit (w.alloc (.cells #[.int .i64 k, .int .u64 n, .string d] 58)) k n d (w.heap.size + 1) (by simp)
  rw [show (w.alloc (.cells #[.int .i64 k, .int .u64 n, .string d] 58)).heap.size = w.heap.size + 1 from by simp] at h
  exact h
theorem concat_items (cb cap : Nat) (ls : List (List It)) (w : World) (hV : ValsAt w w.heap.size cb ls) (h1 : 1 ≤ total ls) (h2 : total ls ≤ 1000000) (hn : ls.length ≤ 1000000) (hok : ∀ l ∈ ls, ∀ x ∈ l, 0 ≤ x.n ∧ x.d.size ≤ maxLen) :
    Calls Tryd.prog 74 #[.slice (some ⟨cb, 0, none⟩) ls.length cap] w fun e w' => ∃ g c2, e = .returned (.slice (some ⟨g, 0, none⟩) ls.flatten.length c2) ∧ ItemsAt w' w'.heap.size (.slice (some ⟨g, 0, none⟩) ls.flatten.length c2) ls.flatten ∧ Below w.heap.size w w' := by
  refine (concat_any cb cap ls w hV h1 h2 hn).mono ?_
  rintro e w' ⟨v, rfl, ho, hb⟩
  obtain ⟨g, c2, rfl⟩ : ∃ g c2, v = .slice (some ⟨g, 0, none⟩) (total ls) c2 := by
    rcases ho.2 with ⟨_, h⟩ | ⟨g, c2, _, h, _⟩
    · omega
    · exact ⟨g, c2, h⟩
  refine ⟨g, c2, rfl, itemsAt_own ho ?_ (by show total ls ≤ _; omega), hb⟩
  intro x hx
  obtain ⟨l, hl, hx⟩ := List.mem_flatten.1 hx
  exact hok l hl x hx

theorem concat_fl (cb cap : Nat) (ls : List (List It)) (fl : List It) (hfl : ls.flatten = fl) (w : World) (hV : ValsAt w w.heap.size cb ls) (h1 : 1 ≤ total ls) (h2 : total ls ≤ 1000000) (hn : ls.length ≤ 1000000) (hok : ∀ l ∈ ls, ∀ x ∈ l, 0 ≤ x.n ∧ x.d.size ≤ maxLen) :
    Calls Tryd.prog 74 #[.slice (some ⟨cb, 0, none⟩) ls.length cap] w fun e w' => ∃ g c2, e = .returned (.slice (some ⟨g, 0, none⟩) fl.length c2) ∧ ItemsAt w' w'.heap.size (.slice (some ⟨g, 0, none⟩) fl.length c2) fl ∧ Below w.heap.size w w' := by
  subst hfl
  exact concat_items cb cap ls w hV h1 h2 hn hok

set_option maxRecDepth 100000 in
set_option maxHeartbeats 1000000 in
theorem container_any (k : Int) (n : Nat) (cb cap : Nat) (ls : List (List It)) (w : World) (hV : ValsAt w w.heap.size cb ls) (ht : Tabs w) (hk : k = 5 ∨ k = 6) (hn : n ≤ 512) (h1 : 1 ≤ total ls) (h2 : total ls ≤ 1000000) (hls : ls.length ≤ 1000000)
    (hok : ∀ l ∈ ls, ∀ x ∈ l, 0 ≤ x.n ∧ x.d.size ≤ maxLen) (fl : List It) (hfl : ls.flatten = fl) (hz : validE (⟨k, n, ⟨#[]⟩⟩ :: fl) = 0) :
    Calls Tryd.prog 51 #[.int .i64 k, .int .i64 n, .slice (some ⟨cb, 0, none⟩) ls.length cap] w fun e w' => ∃ v, e = .returned (.tuple #[v, .int .i64 0]) ∧ ItemsAt w' w'.heap.size v (⟨k, n, ⟨#[]⟩⟩ :: fl) ∧ w.heap.size ≤ w'.heap.size ∧ Below w.heap.size w w' := by
  have hmany : tooManyB k (n : Int) = false := by unfold tooManyB; simp; omega
  have HV := Lib.hid hV
  have HT := Lib.hid ht
  have HZ := Lib.hid hz
  have hzb : (validE (⟨k, n, ⟨#[]⟩⟩ :: fl) != 0) = false := by simp [hz]
  have HB0 := Lib.hid ((Below.refl w.heap.size w).alloc (Nat.le_refl _) (.cells #[.int .i64 k, .int .u64 n, .string ⟨#[]⟩] 58))
  have HC := Lib.hid (fun (W : World) (hW : Below w.heap.size w W) => concat_fl cb cap ls fl hfl W ((HV.out.below hW).mono hW.size) h1 h2 hls hok)
  have hne : fl ≠ [] := by
    intro e
    have : total ls = 0 := by unfold total; rw [hfl, e]; rfl
    omega
  have HNE := Lib.hid hne
  have HOKF : Hid (∀ x ∈ (⟨k, n, ⟨#[]⟩⟩ :: fl : List It), 0 ≤ x.n ∧ x.d.size ≤ maxLen) := by
    intro x hx
    rcases List.mem_cons.1 hx with rfl | hx
    · exact ⟨by simp, Nat.zero_le _⟩
    · rw [← hfl] at hx
      obtain ⟨l, hl, hx⟩ := List.mem_flatten.1 hx
      exact hok l hl x hx
  have h2' : fl.length ≤ 1000000 := by rw [← hfl]; exact h2
  clear hne hfl
  have HS0 := Lib.hid (BoxS.mk' (heap_new w (.cells #[.int .i64 k, .int .u64 n, .string ⟨#[]⟩] 58)))
  clear hV ht hz
  go_enter Tryd.func51, Tryd.ntmps51
  go_wp2_with (go_at_call 46; refine (tooMany_any _ _ _).mono ?_; rintro e w1 ⟨rfl, rfl⟩)
  go_region_held3 (fun W => W.heap[w.heap.size]? = some (.cells (itemCs k n ⟨#[]⟩) 58 (0, 0)) ∧ W.cell? ⟨w.heap.size, 0, none⟩ = some (.int .i64 k) ∧ W.cell? ⟨w.heap.size, 1, none⟩ = some (.int .u64 n) ∧ W.cell? ⟨w.heap.size, 2, none⟩ = some (.string ⟨#[]⟩))
    (first | (exact BoxS.step HS0.out (Below.refl _ _).drew) | (exact BoxS.step (by assumption) hb2) | (exact BoxS.stepB (by assumption) hb3 (by omega)) | (exact BoxS.step (by assumption) ((Below.refl _ _).alloc (Nat.le_refl _) _)) | (exact BoxS.step HS0.out ((Below.refl _ _).alloc (Nat.le_refl _) _).drew))
    (first | (go_at_call 74; refine (HC.out _ (by first | exact (HB0.out.alloc HB0.out.size _).drew | exact HB0.out.drew)).mono ?_; rintro e w2 ⟨g2, c2, rfl, hI2, hb2⟩) | (refine step_items rfl (.tmp 21) (.tmp 23) rfl (w.heap.size + 1) (.slice (some ⟨w.heap.size + 1, 0, none⟩) 1 1) 1 [⟨k, n, ⟨#[]⟩⟩] fl _ g2 0 c2 (own_below (by exact own_lit2 w k n ⟨#[]⟩) hb2) rfl hI2 rfl HNE.out (by omega) h2' (by have := hb2.size; simp at this; omega) ?_; intro v3 w3 ho3 hb3) | (refine step_items rfl (.tmp 21) (.tmp 23) rfl (w.heap.size + 1) (.slice (some ⟨w2.heap.size, 0, none⟩) 1 1) 1 [⟨k, n, ⟨#[]⟩⟩] fl w2.heap.size g2 0 c2 (by exact own_lit w2 k n ⟨#[]⟩ (w.heap.size + 1) (by have := hb2.size; simp at this; omega)) rfl (by exact hI2.below ((Below.refl _ w2).alloc (Nat.le_refl _) _)) rfl HNE.out (by omega) h2' (by have := hb2.size; simp at this ⊢; omega) ?_; intro v3 w3 ho3 hb3))
  all_goals
    have hbw : Below w.heap.size w w3 := by first | exact ((HB0.out.alloc HB0.out.size _).drew.trans (hb2.mono (HB0.out.alloc HB0.out.size _).drew.size)).trans (hb3.mono (by omega)) | exact (((HB0.out.drew.trans (hb2.mono HB0.out.drew.size))).alloc (HB0.out.drew.trans (hb2.mono HB0.out.drew.size)).size _).trans (hb3.mono (by omega))
    obtain ⟨g3, c3, rfl⟩ : ∃ g3 c3, v3 = .slice (some ⟨g3, 0, none⟩) (1 + fl.length) c3 := by
      rcases ho3.2 with ⟨_, h⟩ | ⟨g, c2, _, h, _⟩
      · omega
      · exact ⟨g, c2, h⟩
    have hI3 : ItemsAt w3 w3.heap.size (.slice (some ⟨g3, 0, none⟩) (1 + fl.length) c3) (⟨k, n, ⟨#[]⟩⟩ :: fl) := itemsAt_own ho3 (HOKF.out) (by simp; omega)
    have hC := validate_any _ _ w3 hI3 (HT.out.later hbw)
    have HC2 := Lib.hid hC
    have HI3 := Lib.hid hI3
    have HBW := Lib.hid hbw
    clear hC hI3 hbw ho3 hb3 hb2 hI2
    go_split_ands
    go_wp2_with (go_at_call 18; refine HC2.out.mono ?_; rintro e w4 ⟨rfl, hb4⟩)
    go_ret2
    have hb5 := HBW.out.trans (hb4.mono HBW.out.size)
    exact ⟨_, rfl, itemsAt_mono (HI3.out.below hb4) hb4.size, hb5.size, hb5⟩
end Go.Proofs.YtepinmeidjlmmaaDoor
