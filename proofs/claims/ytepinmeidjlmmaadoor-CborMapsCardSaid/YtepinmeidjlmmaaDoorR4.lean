/- Joined: B6, M1, M2, B7. -/
import Derived.Test.YtepinmeidjlmmaaDoorR3
import Derived.Laws.AppendOwnNone
namespace Go.Proofs.YtepinmeidjlmmaaDoor
open Go.RowKit

set_option maxRecDepth 100000 in
set_option maxHeartbeats 1000000 in
theorem pairs1 (kb vb : Nat) (key : Int) (a : Option Addr) (n c : Nat) (w : World) (hk : kb < w.heap.size) (hv : vb < w.heap.size) (h0 : w.cell? ⟨kb, 0, none⟩ = some (.int .u64 key)) (h1 : w.cell? ⟨vb, 0, none⟩ = some (.slice a n c)) :
    Calls Tryd.prog 49 #[.slice (some ⟨kb, 0, none⟩) 1 1, .slice (some ⟨vb, 0, none⟩) 1 1] w fun e w' => e = .returned (.slice (some ⟨w.heap.size, 0, none⟩) 1 1) ∧ w.alloc (.cells #[.int .u64 key, .slice a n c] 90) = w' := by
  have hmk : ∀ w : World, (Instr.makeSlice 87 (.int .i64 1) (.int .i64 1)).run Tryd.prog w = .ok (.slice (some ⟨w.heap.size, 0, none⟩) 1 1) (w.alloc (.cells #[.int .u64 0, .slice none 0 0] 90)) := fun _ => by kernel_rfl
  go_enter Tryd.func49, Tryd.ntmps49
  go_wp2_with fail
  go_loopw [13] (fun i wr => (i = .int .i64 0 ∧ w.alloc (.cells #[.int .u64 0, .slice none 0 0] 90) = wr) ∨ (i = .int .i64 1 ∧ w.alloc (.cells #[.int .u64 key, .slice a n c] 90) = wr)) (fun i _ => 1 - (intOf i).toNat)
  case atStart => exact .inl ⟨rfl, rfl⟩
  case round =>
    rcases hrel with ⟨rfl, rfl⟩ | ⟨rfl, rfl⟩
    · go_wp2
      go_roundw
      case rel => simp
      case measure => simp [intOf]
    · go_wp2_with (go_at_call 71; refine (sort1 _ _ _ _).mono ?_; rintro e w' ⟨rfl, rfl⟩)
      go_ret
      exact ⟨rfl, rfl⟩

theorem info22 : (Tryd.prog.info? 22).map (fun i => (i.zero, i.size, i.bytes)) = some (some (.slice none 0 0), 1, 24) := by kernel_rfl

/-- append(nil, a, b) of two slices, as one step of a region -/
theorem step_two {ops : Array Oper} {o : Oper} {a : Act} {W : World} {K : Act → World → Prop} {Q : Exit → Act → World → Prop} {E : Prop} (hgd : o.guard = none) (s x : Operand)
    (ho : o.op = .call { callee := .builtin .append, args := #[s, x], argTypes := #[50, 50] }) (a1 a2 : Option Addr) (n1 c1 n2 c2 B : Nat) (hs : a.eval s = .slice none 0 0)
    (hB : W.heap[B]? = some (.cells #[.slice a1 n1 c1, .slice a2 n2 c2] 22 (0, 0))) (hx : a.eval x = .slice (some ⟨B, 0, none⟩) 2 2)
    (h : ∀ g cap w', g < w'.heap.size → w'.cell? ⟨g, 0, none⟩ = some (.slice a1 n1 c1) → w'.cell? ⟨g, 1, none⟩ = some (.slice a2 n2 c2) → Below W.heap.size W w' → K (a.put o.dst (.slice (some ⟨g, 0, none⟩) 2 cap)) w') :
    if Region.wanted o (yielded ops a.tmps) = true then Oper.wp Tryd.prog o a W K Q else E := by
  have hw : Region.wanted o (yielded ops a.tmps) = true := by simp [Region.wanted, hgd]
  rw [if_pos hw]
  obtain ⟨i0, hi, hz0, hz1, hz2⟩ := info_parts info22
  refine wp_append_own W s x 50 ho W.heap.size 22 i0 _ 1 24 Tryd.underlying50 hi hz0 hz1 hz2 rfl (by decide) (.slice none 0 0) 0 [] hs (World.ownsRow_nil _ _ _ _) ⟨B, 0, none⟩ 2 2 [.slice a1 n1 c1, .slice a2 n2 c2] hx rfl ?_ (by simp [Value.oneCell']) (by unfold maxLen; omega) (by omega) (Nat.le_refl _) ?_
  · intro j u hj
    have e : (⟨B, 0, none⟩ : Addr).add j = ⟨B, j, none⟩ := by unfold Addr.add; split <;> simp_all
    rw [e]
    exact cell_of_block hB (by simpa using hj)
  intro v' w' h1 h2 _
  obtain ⟨g, cap, rfl⟩ : ∃ g cap, v' = .slice (some ⟨g, 0, none⟩) 2 cap := by
    rcases h1.2 with ⟨_, h⟩ | ⟨g, cap, _, h, _⟩
    · omega
    · exact ⟨g, cap, h⟩
  refine h g cap w' (h1.lt g rfl).2 ?_ ?_ (below_of_grown (World.ownsRow_nil W W.heap.size 22 1) (Nat.le_refl _) h2)
  · rw [h1.cellAt 0 (by omega)]; rfl
  · rw [h1.cellAt 1 (by omega)]; rfl

theorem heap_new5 (w : World) (o1 o2 o3 : Obj) : (((w.alloc o1).alloc o2).alloc o3).heap[w.heap.size + 2]? = some o3 := by
  have h := heap_new ((w.alloc o1).alloc o2) o3
  rw [show ((w.alloc o1).alloc o2).heap.size = w.heap.size + 2 from by simp] at h
  exact h

theorem heap_new6 (w : World) (o1 o2 o3 : Obj) : (((w.alloc o1).alloc o2).alloc o3).heap[w.heap.size + 1]? = some o2 := by
  rw [Below.heap_alloc _ _ _ (by simp)]; exact heap_new3 w o1 o2

set_option maxRecDepth 100000 in
set_option maxHeartbeats 1000000 in
theorem map1 (kb vb : Nat) (key : Int) (b off cap : Nat) (l : List It) (w : World) (hk : kb < w.heap.size) (hv : vb < w.heap.size) (h0 : w.cell? ⟨kb, 0, none⟩ = some (.int .u64 key)) (h1 : w.cell? ⟨vb, 0, none⟩ = some (.slice (some ⟨b, off, none⟩) l.length cap))
    (hI : ItemsAt w w.heap.size (.slice (some ⟨b, off, none⟩) l.length cap) l) (ht : Tabs w) (hk0 : 0 ≤ key) (hl : l.length ≤ 100000) (hz : validE l = 0) (hz2 : validE (⟨6, 1, ⟨#[]⟩⟩ :: ⟨1, key, ⟨#[]⟩⟩ :: l) = 0) :
    Calls Tryd.prog 30 #[.slice (some ⟨kb, 0, none⟩) 1 1, .slice (some ⟨vb, 0, none⟩) 1 1] w fun e w' => ∃ v, e = .returned (.tuple #[v, .int .i64 0]) ∧ ItemsAt w' w'.heap.size v (⟨6, 1, ⟨#[]⟩⟩ :: ⟨1, key, ⟨#[]⟩⟩ :: l) ∧ Below w.heap.size w w' := by
  have hne : l ≠ [] := by rintro rfl; exact absurd hz (by decide)
  have hB1 : Below w.heap.size w (w.alloc (.cells #[.int .u64 key, .slice (some ⟨b, off, none⟩) l.length cap] 90)) := (Below.refl _ w).alloc (Nat.le_refl _) _
  have hV1 : ValsAt (w.alloc (.cells #[.int .u64 key, .slice (some ⟨b, off, none⟩) l.length cap] 90)) (w.alloc (.cells #[.int .u64 key, .slice (some ⟨b, off, none⟩) l.length cap] 90)).heap.size vb [l] :=
    ⟨by simp; omega, fun i hi => by
      obtain rfl : i = 0 := by simp at hi; omega
      exact ⟨b, off, cap, (hB1.cell (p := ⟨vb, 0, none⟩) hv).trans h1, itemsAt_mono (hI.below hB1) (by simp)⟩, by intro x hx; simp at hx; subst hx; exact hne⟩
  have hA : valAllE [l] = 0 := by rw [valAll_yes hz]; rfl
  have C50 := validateAll_any vb 1 [l] _ hV1 (ht.later hB1) (by simp)
  rw [hA] at C50
  have HC50 := Lib.hid C50
  have HB1 := Lib.hid hB1
  have HP := Lib.hid (pairs1 kb vb key (some ⟨b, off, none⟩) l.length cap w hk hv h0 h1)
  have HI := Lib.hid hI
  have HT := Lib.hid ht
  have HZ2 := Lib.hid hz2
  have HNE := Lib.hid hne
  clear hV1 hA C50 hB1 hI ht hz hz2 hne h0 h1
  go_enter Tryd.func30, Tryd.ntmps30
  go_wp2_with (go_at_call 49; refine HP.out.mono ?_; rintro e w1 ⟨rfl, rfl⟩)
  refine wp_loop_rounds 1 ?_
  rw [rounds_succ]
  go_wp2_with (go_at_call 50; refine HC50.out.mono ?_; rintro e w2 ⟨rfl, hb2⟩)
  have p0 : w2.cell? ⟨w.heap.size, 0, none⟩ = some (.int .u64 key) := (hb2.cell (p := ⟨w.heap.size, 0, none⟩) (by simp)).trans (by simp)
  have p1 : w2.cell? ⟨w.heap.size, 1, none⟩ = some (.slice (some ⟨b, off, none⟩) l.length cap) := (hb2.cell (p := ⟨w.heap.size, 1, none⟩) (by simp)).trans (by simp)
  have hbw := HB1.out.trans (hb2.mono HB1.out.size)
  have HBW := Lib.hid hbw
  have HP0 := Lib.hid p0
  have HP1 := Lib.hid p1
  have hsz2 : w.heap.size < w2.heap.size := by have := hb2.size; simp at this; omega
  clear hbw hb2 p0 p1
  go_loopw [9, 45] (fun v i wr => Below w.heap.size w wr ∧ w.heap.size < wr.heap.size ∧ ((i = .int .i64 0 ∧ v = .slice none 0 0 ∧ wr.cell? ⟨w.heap.size, 0, none⟩ = some (.int .u64 key) ∧ wr.cell? ⟨w.heap.size, 1, none⟩ = some (.slice (some ⟨b, off, none⟩) l.length cap)) ∨ (i = .int .i64 1 ∧ ∃ cb cc, v = .slice (some ⟨cb, 0, none⟩) 2 cc ∧ ValsAt wr wr.heap.size cb [[⟨1, key, ⟨#[]⟩⟩], l]))) (fun _ i _ => 1 - (intOf i).toNat)
  case atStart => exact ⟨HBW.out, hsz2, .inl ⟨rfl, rfl, HP0.out, HP1.out⟩⟩
  case round =>
    obtain ⟨hbr, hsr, ⟨rfl, rfl, q0, q1⟩ | ⟨rfl, cb, cc, rfl, hV⟩⟩ := hrel
    · have HBR := Lib.hid hbr
      clear hbr
      have hW : Below wr.heap.size wr (((wr.alloc (.cells #[.int .u64 key, .slice (some ⟨b, off, none⟩) l.length cap] 90)).alloc (.cells (itemCs 1 key ⟨#[]⟩) 58)).alloc (.cells #[.slice (some ⟨wr.heap.size + 1, 0, none⟩) 1 1, .slice (some ⟨b, off, none⟩) l.length cap] 22)) := (((Below.refl _ wr).alloc (Nat.le_refl _) _).alloc (by simp) _).alloc (by simp; omega) _
      have HW := Lib.hid hW
      clear hW
      go_wp2_with fail
      go_region_held3 (fun W => W.cell? ⟨wr.heap.size, 0, none⟩ = some (.int .u64 key) ∧ W.cell? ⟨wr.heap.size, 1, none⟩ = some (.slice (some ⟨b, off, none⟩) l.length cap))
        (first | (((try refine ⟨?_, ?_⟩) <;> go_simp); done) | (exact ⟨(hb3.cell (p := ⟨wr.heap.size, 0, none⟩) (by simp <;> omega)).trans (And.left (by assumption)), (hb3.cell (p := ⟨wr.heap.size, 1, none⟩) (by simp <;> omega)).trans (And.right (by assumption))⟩))
        (first | (go_at_call 34; refine (uint_any _ _).mono ?_; rintro e w3 ⟨rfl, rfl⟩) | (refine step_two rfl (.tmp 49) (.tmp 55) rfl (some ⟨wr.heap.size + 1, 0, none⟩) (some ⟨b, off, none⟩) 1 1 l.length cap (wr.heap.size + 2) rfl (by exact heap_new5 wr _ _ _) rfl ?_; intro g gc w4 hg4 e0 e1 hb3))
      have hb4 := HW.out.drew.trans (hb3.mono HW.out.drew.size)
      have hit : w4.heap[wr.heap.size + 1]? = some (.cells (itemCs 1 key ⟨#[]⟩) 58 (0, 0)) := (hb3.block (wr.heap.size + 1) (by simp)).trans (heap_new6 wr _ _ _)
      have hs4 := hb4.size
      have hlt4 : wr.heap.size + 1 < w4.heap.size := lt_of_heap hit
      have hV4 : ValsAt w4 w4.heap.size g [[⟨1, key, ⟨#[]⟩⟩], l] := ⟨hg4, fun i hi => by
        have hi2 : i = 0 ∨ i = 1 := by simp at hi; omega
        rcases hi2 with rfl | rfl
        · exact ⟨_, 0, 1, e0, itemsAt_one hlt4 hit hk0 (Nat.zero_le _)⟩
        · exact ⟨b, off, cap, e1, itemsAt_mono ((HI.out.below HBR.out).below (hb4.mono (Nat.le_of_lt hsr))) (by omega)⟩, by
        intro x hx
        simp only [List.mem_cons, List.not_mem_nil, or_false] at hx
        rcases hx with rfl | rfl
        · simp
        · exact HNE.out⟩
      have HV4 := Lib.hid hV4
      have HB4 := Lib.hid hb4
      clear hV4 hit hb3 hb4 e0 e1
      go_split_ands
      go_wp2_with fail
      go_roundw
      case rel => exact ⟨HBR.out.trans (HB4.out.mono (Nat.le_of_lt hsr)), by omega, .inr ⟨rfl, g, gc, rfl, HV4.out⟩⟩
      case measure => simp [intOf]
    · have HBR := Lib.hid hbr
      have hC := container_any 6 1 cb cc [[⟨1, key, ⟨#[]⟩⟩], l] wr hV (HT.out.later hbr) (.inr rfl) (by omega) (by simp [total]) (by simp [total]; omega) (by simp) (by
        intro y hy x hx
        simp only [List.mem_cons, List.not_mem_nil, or_false] at hy
        rcases hy with rfl | rfl
        · simp only [List.mem_cons, List.not_mem_nil, or_false] at hx
          subst hx
          exact ⟨hk0, Nat.zero_le _⟩
        · exact HI.out.ok x hx) (⟨1, key, ⟨#[]⟩⟩ :: l) (by simp) HZ2.out
      have HC := Lib.hid hC
      clear hbr hC hV
      go_wp2_with (go_at_call 51; refine HC.out.mono ?_; rintro e w3 ⟨v3, rfl, hI3, hs3, hb3⟩)
      go_ret2
      exact ⟨v3, rfl, hI3, HBR.out.trans (hb3.mono HBR.out.size)⟩
end Go.Proofs.YtepinmeidjlmmaaDoor

/- cbor.container: a list that is not valid; nothing to hold. -/
namespace Go.Proofs.YtepinmeidjlmmaaDoor
open Go.RowKit

theorem row_cap {w : World} {base e size g n c : Nat} {xs : List Value} (h : w.ownsRow base e size (.slice (some ⟨g, 0, none⟩) n c) n xs) : n ≤ c := by
  rcases h.2 with ⟨hv, _⟩ | ⟨g', cap, cur, hv, hb, hh, hle, _⟩
  · cases hv
  · cases hv; exact hle

set_option maxRecDepth 100000 in
set_option maxHeartbeats 1000000 in
theorem container_good (k : Int) (n : Nat) (cb cap : Nat) (ls : List (List It)) (w : World) (hV : ValsAt w w.heap.size cb ls) (ht : Tabs w) (_ : k = 5 ∨ k = 6) (hn : n ≤ 512) (h1 : 1 ≤ total ls) (h2 : total ls ≤ 1000000) (hls : ls.length ≤ 1000000)
    (hok : ∀ l ∈ ls, ∀ x ∈ l, 0 ≤ x.n ∧ x.d.size ≤ maxLen) (fl : List It) (hfl : ls.flatten = fl) (hz : validE (⟨k, n, ⟨#[]⟩⟩ :: fl) = 0) :
    Calls Tryd.prog 51 #[.int .i64 k, .int .i64 n, .slice (some ⟨cb, 0, none⟩) ls.length cap] w fun e w' => ∃ v, e = .returned (.tuple #[v, .int .i64 0]) ∧ ItemsAt w' w'.heap.size v (⟨k, n, ⟨#[]⟩⟩ :: fl) ∧ (∀ a c, v = .slice a (⟨k, n, ⟨#[]⟩⟩ :: fl).length c → (⟨k, n, ⟨#[]⟩⟩ :: fl).length ≤ c) ∧ Below w.heap.size w w' := by
  have hmany : tooManyB k (n : Int) = false := by unfold tooManyB; simp; omega
  have HV := Lib.hid hV
  have HT := Lib.hid ht
  have HZ := Lib.hid hz
  have hzb : (validE (⟨k, n, ⟨#[]⟩⟩ :: fl) != 0) = false := by simp [hz]
  have HB0 := Lib.hid ((Below.refl w.heap.size w).alloc (Nat.le_refl _) (.cells #[.int .i64 k, .int .u64 n, .string ⟨#[]⟩] 58))
  have HC := Lib.hid (fun (W : World) (hW : Below w.heap.size w W) => concat_fl cb cap ls fl hfl W ((HV.out.below hW).mono hW.size) h1 h2 hls hok)
  have hne : fl ≠ [] := by
    intro e
    have : total ls = 0 := by unfold total; rw [hfl, e]; rfl
    omega
  have HNE := Lib.hid hne
  have HOKF : Hid (∀ x ∈ (⟨k, n, ⟨#[]⟩⟩ :: fl : List It), 0 ≤ x.n ∧ x.d.size ≤ maxLen) := by
    intro x hx
    rcases List.mem_cons.1 hx with rfl | hx
    · exact ⟨by simp, Nat.zero_le _⟩
    · rw [← hfl] at hx
      obtain ⟨l, hl, hx⟩ := List.mem_flatten.1 hx
      exact hok l hl x hx
  have h2' : fl.length ≤ 1000000 := by rw [← hfl]; exact h2
  clear hne hfl
  have HS0 := Lib.hid (BoxS.mk' (heap_new w (.cells #[.int .i64 k, .int .u64 n, .string ⟨#[]⟩] 58)))
  clear hV ht hz
  go_enter Tryd.func51, Tryd.ntmps51
  go_wp2_with (go_at_call 46; refine (tooMany_any _ _ _).mono ?_; rintro e w1 ⟨rfl, rfl⟩)
  go_region_held3 (fun W => W.heap[w.heap.size]? = some (.cells (itemCs k n ⟨#[]⟩) 58 (0, 0)) ∧ W.cell? ⟨w.heap.size, 0, none⟩ = some (.int .i64 k) ∧ W.cell? ⟨w.heap.size, 1, none⟩ = some (.int .u64 n) ∧ W.cell? ⟨w.heap.size, 2, none⟩ = some (.string ⟨#[]⟩))
    (first | (exact BoxS.step HS0.out (Below.refl _ _).drew) | (exact BoxS.step (by assumption) hb2) | (exact BoxS.stepB (by assumption) hb3 (by omega)) | (exact BoxS.step (by assumption) ((Below.refl _ _).alloc (Nat.le_refl _) _)) | (exact BoxS.step HS0.out ((Below.refl _ _).alloc (Nat.le_refl _) _).drew))
    (first | (go_at_call 74; refine (HC.out _ (by first | exact (HB0.out.alloc HB0.out.size _).drew | exact HB0.out.drew)).mono ?_; rintro e w2 ⟨g2, c2, rfl, hI2, hb2⟩) | (refine step_items rfl (.tmp 21) (.tmp 23) rfl (w.heap.size + 1) (.slice (some ⟨w.heap.size + 1, 0, none⟩) 1 1) 1 [⟨k, n, ⟨#[]⟩⟩] fl _ g2 0 c2 (own_below (by exact own_lit2 w k n ⟨#[]⟩) hb2) rfl hI2 rfl HNE.out (by omega) h2' (by have := hb2.size; simp at this; omega) ?_; intro v3 w3 ho3 hb3) | (refine step_items rfl (.tmp 21) (.tmp 23) rfl (w.heap.size + 1) (.slice (some ⟨w2.heap.size, 0, none⟩) 1 1) 1 [⟨k, n, ⟨#[]⟩⟩] fl w2.heap.size g2 0 c2 (by exact own_lit w2 k n ⟨#[]⟩ (w.heap.size + 1) (by have := hb2.size; simp at this; omega)) rfl (by exact hI2.below ((Below.refl _ w2).alloc (Nat.le_refl _) _)) rfl HNE.out (by omega) h2' (by have := hb2.size; simp at this ⊢; omega) ?_; intro v3 w3 ho3 hb3))
  all_goals
    have hbw : Below w.heap.size w w3 := by first | exact ((HB0.out.alloc HB0.out.size _).drew.trans (hb2.mono (HB0.out.alloc HB0.out.size _).drew.size)).trans (hb3.mono (by omega)) | exact (((HB0.out.drew.trans (hb2.mono HB0.out.drew.size))).alloc (HB0.out.drew.trans (hb2.mono HB0.out.drew.size)).size _).trans (hb3.mono (by omega))
    obtain ⟨g3, c3, rfl⟩ : ∃ g3 c3, v3 = .slice (some ⟨g3, 0, none⟩) (1 + fl.length) c3 := by
      rcases ho3.2 with ⟨_, h⟩ | ⟨g, c2, _, h, _⟩
      · omega
      · exact ⟨g, c2, h⟩
    have hI3 : ItemsAt w3 w3.heap.size (.slice (some ⟨g3, 0, none⟩) (1 + fl.length) c3) (⟨k, n, ⟨#[]⟩⟩ :: fl) := itemsAt_own ho3 (HOKF.out) (by simp; omega)
    have hC := validate_any _ _ w3 hI3 (HT.out.later hbw)
    have HC2 := Lib.hid hC
    have HI3 := Lib.hid hI3
    have HCAP := Lib.hid (row_cap ho3)
    have HBW := Lib.hid hbw
    clear hC hI3 hbw ho3 hb3 hb2 hI2
    go_split_ands
    go_wp2_with (go_at_call 18; refine HC2.out.mono ?_; rintro e w4 ⟨rfl, hb4⟩)
    go_ret2
    have hb5 := HBW.out.trans (hb4.mono HBW.out.size)
    exact ⟨.slice (some ⟨g3, 0, none⟩) (1 + fl.length) c3, rfl, itemsAt_mono (HI3.out.below hb4) hb4.size, fun a c e => by simp only [Value.slice.injEq] at e; have h9 := HCAP.out; have h8 : (⟨k, n, ⟨#[]⟩⟩ :: fl : List It).length = fl.length + 1 := rfl; omega, hb5⟩

set_option maxRecDepth 100000 in
set_option maxHeartbeats 1000000 in
theorem container_bad (k : Int) (n : Nat) (cb cap : Nat) (ls : List (List It)) (w : World) (hV : ValsAt w w.heap.size cb ls) (ht : Tabs w) (_ : k = 5 ∨ k = 6) (hn : n ≤ 512) (h1 : 1 ≤ total ls) (h2 : total ls ≤ 1000000) (hls : ls.length ≤ 1000000)
    (hok : ∀ l ∈ ls, ∀ x ∈ l, 0 ≤ x.n ∧ x.d.size ≤ maxLen) (fl : List It) (hfl : ls.flatten = fl) (hz : ¬ validE (⟨k, n, ⟨#[]⟩⟩ :: fl) = 0) :
    Calls Tryd.prog 51 #[.int .i64 k, .int .i64 n, .slice (some ⟨cb, 0, none⟩) ls.length cap] w fun e w' => e = .returned (.tuple #[.slice none 0 0, .int .i64 (validE (⟨k, n, ⟨#[]⟩⟩ :: fl))]) ∧ Below w.heap.size w w' := by
  have hmany : tooManyB k (n : Int) = false := by unfold tooManyB; simp; omega
  have HV := Lib.hid hV
  have HT := Lib.hid ht
  have hzb : (validE (⟨k, n, ⟨#[]⟩⟩ :: fl) != 0) = true := by simp [hz]
  have HB0 := Lib.hid ((Below.refl w.heap.size w).alloc (Nat.le_refl _) (.cells #[.int .i64 k, .int .u64 n, .string ⟨#[]⟩] 58))
  have HC := Lib.hid (fun (W : World) (hW : Below w.heap.size w W) => concat_fl cb cap ls fl hfl W ((HV.out.below hW).mono hW.size) h1 h2 hls hok)
  have hne : fl ≠ [] := by
    intro e
    have : total ls = 0 := by unfold total; rw [hfl, e]; rfl
    omega
  have HNE := Lib.hid hne
  have HOKF : Hid (∀ x ∈ (⟨k, n, ⟨#[]⟩⟩ :: fl : List It), 0 ≤ x.n ∧ x.d.size ≤ maxLen) := by
    intro x hx
    rcases List.mem_cons.1 hx with rfl | hx
    · exact ⟨by simp, Nat.zero_le _⟩
    · rw [← hfl] at hx
      obtain ⟨l, hl, hx⟩ := List.mem_flatten.1 hx
      exact hok l hl x hx
  have h2' : fl.length ≤ 1000000 := by rw [← hfl]; exact h2
  clear hne hfl
  have HS0 := Lib.hid (BoxS.mk' (heap_new w (.cells #[.int .i64 k, .int .u64 n, .string ⟨#[]⟩] 58)))
  clear hV ht hz
  go_enter Tryd.func51, Tryd.ntmps51
  go_wp2_with (go_at_call 46; refine (tooMany_any _ _ _).mono ?_; rintro e w1 ⟨rfl, rfl⟩)
  go_region_held3 (fun W => W.heap[w.heap.size]? = some (.cells (itemCs k n ⟨#[]⟩) 58 (0, 0)) ∧ W.cell? ⟨w.heap.size, 0, none⟩ = some (.int .i64 k) ∧ W.cell? ⟨w.heap.size, 1, none⟩ = some (.int .u64 n) ∧ W.cell? ⟨w.heap.size, 2, none⟩ = some (.string ⟨#[]⟩))
    (first | (exact BoxS.step HS0.out (Below.refl _ _).drew) | (exact BoxS.step (by assumption) hb2) | (exact BoxS.stepB (by assumption) hb3 (by omega)) | (exact BoxS.step (by assumption) ((Below.refl _ _).alloc (Nat.le_refl _) _)) | (exact BoxS.step HS0.out ((Below.refl _ _).alloc (Nat.le_refl _) _).drew))
    (first | (go_at_call 74; refine (HC.out _ (by first | exact (HB0.out.alloc HB0.out.size _).drew | exact HB0.out.drew)).mono ?_; rintro e w2 ⟨g2, c2, rfl, hI2, hb2⟩) | (refine step_items rfl (.tmp 21) (.tmp 23) rfl (w.heap.size + 1) (.slice (some ⟨w.heap.size + 1, 0, none⟩) 1 1) 1 [⟨k, n, ⟨#[]⟩⟩] fl _ g2 0 c2 (own_below (by exact own_lit2 w k n ⟨#[]⟩) hb2) rfl hI2 rfl HNE.out (by omega) h2' (by have := hb2.size; simp at this; omega) ?_; intro v3 w3 ho3 hb3) | (refine step_items rfl (.tmp 21) (.tmp 23) rfl (w.heap.size + 1) (.slice (some ⟨w2.heap.size, 0, none⟩) 1 1) 1 [⟨k, n, ⟨#[]⟩⟩] fl w2.heap.size g2 0 c2 (by exact own_lit w2 k n ⟨#[]⟩ (w.heap.size + 1) (by have := hb2.size; simp at this; omega)) rfl (by exact hI2.below ((Below.refl _ w2).alloc (Nat.le_refl _) _)) rfl HNE.out (by omega) h2' (by have := hb2.size; simp at this ⊢; omega) ?_; intro v3 w3 ho3 hb3))
  all_goals
    have hbw : Below w.heap.size w w3 := by first | exact ((HB0.out.alloc HB0.out.size _).drew.trans (hb2.mono (HB0.out.alloc HB0.out.size _).drew.size)).trans (hb3.mono (by omega)) | exact (((HB0.out.drew.trans (hb2.mono HB0.out.drew.size))).alloc (HB0.out.drew.trans (hb2.mono HB0.out.drew.size)).size _).trans (hb3.mono (by omega))
    obtain ⟨g3, c3, rfl⟩ : ∃ g3 c3, v3 = .slice (some ⟨g3, 0, none⟩) (1 + fl.length) c3 := by
      rcases ho3.2 with ⟨_, h⟩ | ⟨g, c2, _, h, _⟩
      · omega
      · exact ⟨g, c2, h⟩
    have hI3 : ItemsAt w3 w3.heap.size (.slice (some ⟨g3, 0, none⟩) (1 + fl.length) c3) (⟨k, n, ⟨#[]⟩⟩ :: fl) := itemsAt_own ho3 (HOKF.out) (by simp; omega)
    have hC := validate_any _ _ w3 hI3 (HT.out.later hbw)
    have HC2 := Lib.hid hC
    have HBW := Lib.hid hbw
    clear hC hI3 hbw ho3 hb3 hb2 hI2
    go_split_ands
    go_wp2_with (go_at_call 18; refine HC2.out.mono ?_; rintro e w4 ⟨rfl, hb4⟩)
    go_ret2
    exact ⟨rfl, HBW.out.trans (hb4.mono HBW.out.size)⟩

set_option maxRecDepth 100000 in
set_option maxHeartbeats 1000000 in
theorem grow_zero (w : World) : Calls Tryd.prog 86 #[.slice none 0 0, .int .i64 0] w fun e w' => e = .returned (.slice none 0 0) ∧ w = w' := by
  go_enter Tryd.func86, Tryd.ntmps86
  go_wp2
  go_ret
  exact ⟨rfl, rfl⟩
set_option maxRecDepth 100000 in
set_option maxHeartbeats 1000000 in
theorem concat_nil (A : Option Addr) (cap : Nat) (w : World) : Calls Tryd.prog 74 #[.slice A 0 cap] w fun e w' => e = .returned (.slice none 0 0) ∧ w = w' := by
  go_enter Tryd.func74, Tryd.ntmps74
  go_wp2_with fail
  refine wp_loop_rounds 1 ?_
  rw [rounds_succ]
  go_wp2_with (go_at_call 86; refine (grow_zero _).mono ?_; rintro e w2 ⟨rfl, rfl⟩)
  refine wp_loop_rounds 1 ?_
  rw [rounds_succ]
  go_wp2
  go_ret
  exact ⟨rfl, rfl⟩
end Go.Proofs.YtepinmeidjlmmaaDoor

/- Slices of slices of items, empty ones too; cbor.container. -/
namespace Go.Proofs.YtepinmeidjlmmaaDoor
open Go.RowKit

/-- a slice of slices of items, empty ones too -/
structure ValsW (w : World) (B cb : Nat) (ls : List (List It)) : Prop where
  lt : cb < B
  cell : ∀ i (h : i < ls.length), ∃ A cap, w.cell? ⟨cb, i, none⟩ = some (.slice A ls[i].length cap) ∧ ItemsAt w B (.slice A ls[i].length cap) ls[i]
theorem ValsW.below {w w' : World} {B cb : Nat} {ls : List (List It)} (h : ValsW w B cb ls) (hb : Below B w w') : ValsW w' B cb ls :=
  ⟨h.lt, fun i hi => by
    obtain ⟨A, cap, h1, h2⟩ := h.cell i hi
    exact ⟨A, cap, (hb.cell (p := ⟨cb, i, none⟩) h.lt).trans h1, h2.below hb⟩⟩
theorem ValsW.mono {w : World} {B B' cb : Nat} {ls : List (List It)} (h : ValsW w B cb ls) (hB : B ≤ B') : ValsW w B' cb ls :=
  ⟨Nat.lt_of_lt_of_le h.lt hB, fun i hi => by
    obtain ⟨A, cap, h1, h2⟩ := h.cell i hi
    exact ⟨A, cap, h1, itemsAt_mono h2 hB⟩⟩
theorem ValsW.full {w : World} {B cb : Nat} {ls : List (List It)} (h : ValsW w B cb ls) (hne : ∀ l ∈ ls, l ≠ []) : ValsAt w B cb ls :=
  ⟨h.lt, fun i hi => by
    obtain ⟨A, cap, h1, h2⟩ := h.cell i hi
    rcases h2.form with ⟨_, h0⟩ | ⟨b, off, cap2, hv, _, _⟩
    · exact absurd h0 (hne _ (List.getElem_mem hi))
    · simp only [Value.slice.injEq] at hv
      obtain ⟨rfl, _, rfl⟩ := hv
      exact ⟨b, off, cap, h1, h2⟩, hne⟩
theorem valAll_ne : ∀ {ls : List (List It)}, valAllE ls = 0 → ∀ l ∈ ls, l ≠ [] ∧ validE l = 0
  | [], _, l, hl => by cases hl
  | x :: r, h, l, hl => by
    by_cases hz : validE x = 0
    · rw [valAll_yes hz] at h
      rcases List.mem_cons.1 hl with rfl | hl
      · exact ⟨fun e => by subst e; exact absurd hz (by decide), hz⟩
      · exact valAll_ne h l hl
    · rw [valAll_no hz] at h; exact absurd h hz

set_option maxRecDepth 100000 in
set_option maxHeartbeats 1000000 in
theorem validateAllW_any (cb cap : Nat) (ls : List (List It)) (w : World) (hV : ValsW w w.heap.size cb ls) (ht : Tabs w) (hn : ls.length ≤ 1000000) :
    Calls Tryd.prog 50 #[.slice (some ⟨cb, 0, none⟩) ls.length cap] w fun e w' => e = .returned (.int .i64 (valAllE ls)) ∧ Below w.heap.size w w' := by
  have HV := Lib.hid hV
  have HT := Lib.hid ht
  clear hV ht
  go_enter Tryd.func50, Tryd.ntmps50
  go_wp2_with fail
  go_loopw [8] (fun i wr => ∃ j : Nat, j ≤ ls.length ∧ i = .int .i64 j ∧ Below w.heap.size w wr ∧ valAllE (ls.drop j) = valAllE ls) (fun i _ => ls.length - (intOf i).toNat)
  case atStart => exact ⟨0, by omega, rfl, Below.refl _ _, rfl⟩
  case round =>
    obtain ⟨j, hj, rfl, hb, hgo⟩ := hrel
    have HB := Lib.hid hb
    have HGO := Lib.hid hgo
    have hsz := hb.size
    clear hb hgo
    by_cases hlt : j < ls.length
    · obtain ⟨A2, c2, hc, hI⟩ := HV.out.cell j hlt
      have q := (HB.out.cell (p := ⟨cb, j, none⟩) HV.out.lt).trans hc
      have hC := validate_any ls[j] _ wr (itemsAt_mono (hI.below HB.out) hsz) (HT.out.later HB.out)
      have HC := Lib.hid hC
      have hdr := drop_at' hlt
      have HDR := Lib.hid hdr
      have hlj := hI.len
      clear hC hI hc hdr
      by_cases hz : validE ls[j] = 0
      · have hzb : (validE ls[j] != 0) = false := by simp [hz]
        have HZ := Lib.hid hz
        clear hz
        go_wp2_with (go_at_call 18; refine HC.out.mono ?_; rintro e w1 ⟨rfl, hb1⟩)
        go_roundw
        case rel => exact ⟨j + 1, by omega, by go_num, HB.out.trans (hb1.mono hsz), by rw [← HGO.out, HDR.out, valAll_yes HZ.out]⟩
        case measure => simp [intOf]; omega
      · have hzb : (validE ls[j] != 0) = true := by simp [hz]
        have hv : valAllE ls = validE ls[j] := by rw [← HGO.out, HDR.out, valAll_no hz]
        have HVV := Lib.hid hv
        clear hz hv
        go_wp2_with (go_at_call 18; refine HC.out.mono ?_; rintro e w1 ⟨rfl, hb1⟩)
        go_ret
        exact ⟨ret_int HVV.out.symm, HB.out.trans (hb1.mono hsz)⟩
    · have hjl : j = ls.length := by omega
      have hv : valAllE ls = 0 := by rw [← HGO.out, hjl, List.drop_length]; rfl
      have HVV := Lib.hid hv
      clear hv hjl
      go_wp2
      go_ret
      exact ⟨ret_int HVV.out.symm, HB.out⟩


/-- the values, as Go holds them: nil, or a block -/
def VS (w : World) (B : Nat) (V : Value) (ls : List (List It)) : Prop := (V = .slice none 0 0 ∧ ls = []) ∨ ∃ cb cap, V = .slice (some ⟨cb, 0, none⟩) ls.length cap ∧ ValsW w B cb ls
theorem VS.below {w w' : World} {B : Nat} {V : Value} {ls : List (List It)} (h : VS w B V ls) (hb : Below B w w') : VS w' B V ls := by
  rcases h with h0 | ⟨cb, cap, hv, hV⟩
  · exact .inl h0
  · exact .inr ⟨cb, cap, hv, hV.below hb⟩
theorem VS.mono {w : World} {B B' : Nat} {V : Value} {ls : List (List It)} (h : VS w B V ls) (hB : B ≤ B') : VS w B' V ls := by
  rcases h with h0 | ⟨cb, cap, hv, hV⟩
  · exact .inl h0
  · exact .inr ⟨cb, cap, hv, hV.mono hB⟩
theorem VS.len {w : World} {B : Nat} {V : Value} {ls : List (List It)} (h : VS w B V ls) : ∃ A cap, V = .slice A ls.length cap := by
  rcases h with ⟨rfl, rfl⟩ | ⟨cb, cap, hv, _⟩
  · exact ⟨none, 0, rfl⟩
  · exact ⟨_, cap, hv⟩
theorem VS.ok {w : World} {B : Nat} {V : Value} {ls : List (List It)} (h : VS w B V ls) : ∀ l ∈ ls, ∀ x ∈ l, 0 ≤ x.n ∧ x.d.size ≤ maxLen := by
  rcases h with ⟨_, rfl⟩ | ⟨cb, cap, _, hV⟩
  · intro l hl; cases hl
  · intro l hl
    obtain ⟨i, hi, rfl⟩ := List.getElem_of_mem hl
    obtain ⟨A, c, _, hI⟩ := hV.cell i hi
    exact hI.ok

set_option maxRecDepth 100000 in
set_option maxHeartbeats 1000000 in
theorem validateAll_nil (A : Option Addr) (cap : Nat) (w : World) : Calls Tryd.prog 50 #[.slice A 0 cap] w fun e w' => e = .returned (.int .i64 0) ∧ Below w.heap.size w w' := by
  go_enter Tryd.func50, Tryd.ntmps50
  go_wp2_with fail
  refine wp_loop_rounds 1 ?_
  rw [rounds_succ]
  go_wp2
  go_ret
  exact ⟨rfl, Below.refl _ _⟩
theorem valsAll_any (V : Value) (ls : List (List It)) (w : World) (hV : VS w w.heap.size V ls) (ht : Tabs w) (hn : ls.length ≤ 1000000) :
    Calls Tryd.prog 50 #[V] w fun e w' => e = .returned (.int .i64 (valAllE ls)) ∧ Below w.heap.size w w' := by
  rcases hV with ⟨rfl, rfl⟩ | ⟨cb, cap, rfl, hV⟩
  · exact validateAll_nil none 0 w
  · exact validateAllW_any cb cap ls w hV ht hn

/-- append(a, nil...) of items, as one step of a region -/
theorem step_items_none {ops : Array Oper} {o : Oper} {a : Act} {W : World} {K : Act → World → Prop} {Q : Exit → Act → World → Prop} {E : Prop} (hgd : o.guard = none) (s x : Operand)
    (ho : o.op = .call { callee := .builtin .append, args := #[s, x], argTypes := #[22, 22] })
    (base : Nat) (v : Value) (n : Nat) (xs : List It) (hown : W.ownsRow base 58 3 v n (itCells xs)) (hs : a.eval s = v) (hx : a.eval x = .slice none 0 0)
    (h : K (a.put o.dst v) W) :
    if Region.wanted o (yielded ops a.tmps) = true then Oper.wp Tryd.prog o a W K Q else E := by
  have hw : Region.wanted o (yielded ops a.tmps) = true := by simp [Region.wanted, hgd]
  rw [if_pos hw]
  obtain ⟨i0, hi, _⟩ := info_parts info58
  have hrun := run_append_owned_none (P := Tryd.prog) (w := W) base 22 o.type 58 i0 3 Tryd.underlying22 hi v n (itCells xs) hown
  unfold Oper.wp
  simp [execOp, ho, resolve, invoke, builtin, hs, hx, hrun, Result.andThen]
  exact h

/-- a result: a list of items and an error -/
def ResP (r : Int × List It) (w : World) (e : Ending) (w' : World) : Prop := ∃ v, e = .returned (.tuple #[v, .int .i64 r.1]) ∧ ItemsAt w' w'.heap.size v r.2 ∧ (∀ a c, v = .slice a r.2.length c → r.2.length ≤ c) ∧ Below w.heap.size w w'
theorem nil_cap : ∀ (a : Option Addr) (c : Nat), Value.slice none 0 0 = .slice a ([] : List It).length c → ([] : List It).length ≤ c := fun _ _ _ => Nat.zero_le _
theorem itemsAt_nil (w : World) (B : Nat) : ItemsAt w B (.slice none 0 0) [] := ⟨.inl ⟨rfl, rfl⟩, by simp, by simp⟩

set_option maxRecDepth 100000 in
set_option maxHeartbeats 1000000 in
theorem container_nil (k : Int) (A : Option Addr) (cap : Nat) (w : World) (hk : k = 5 ∨ k = 6) (ht : Tabs w) :
    Calls Tryd.prog 51 #[.int .i64 k, .int .i64 0, .slice A 0 cap] w (ResP (0, [⟨k, 0, ⟨#[]⟩⟩]) w) := by
  have hz : validE [⟨k, 0, ⟨#[]⟩⟩] = 0 := by rcases hk with rfl | rfl <;> decide +kernel
  have hmany : tooManyB k 0 = false := by unfold tooManyB; simp
  have HT := Lib.hid ht
  have HZ := Lib.hid hz
  have hzb : (validE [⟨k, 0, ⟨#[]⟩⟩] != 0) = false := by simp [hz]
  have HB0 := Lib.hid ((Below.refl w.heap.size w).alloc (Nat.le_refl _) (.cells #[.int .i64 k, .int .u64 0, .string ⟨#[]⟩] 58))
  have HS0 := Lib.hid (BoxS.mk' (heap_new w (.cells #[.int .i64 k, .int .u64 0, .string ⟨#[]⟩] 58)))
  have hb2 : Below w.heap.size w ((w.alloc (.cells #[.int .i64 k, .int .u64 0, .string ⟨#[]⟩] 58)).alloc (.cells #[.int .i64 k, .int .u64 0, .string ⟨#[]⟩] 58)).drew := (HB0.out.alloc HB0.out.size _).drew
  have hI1 : ItemsAt ((w.alloc (.cells #[.int .i64 k, .int .u64 0, .string ⟨#[]⟩] 58)).alloc (.cells #[.int .i64 k, .int .u64 0, .string ⟨#[]⟩] 58)).drew (w.heap.size + 2) (.slice (some ⟨w.heap.size + 1, 0, none⟩) 1 1) [⟨k, 0, ⟨#[]⟩⟩] := by
    have h1 := itemsAt_own (own_lit2 w k 0 ⟨#[]⟩) (by intro x hx; simp only [List.mem_singleton] at hx; subst hx; exact ⟨Int.le_refl _, Nat.zero_le _⟩) (by simp)
    have h2 := h1.below (Below.refl _ _).drew
    simpa using h2
  have HC := Lib.hid (validate_any _ _ _ (itemsAt_mono hI1 (by simp)) (HT.out.later hb2))
  have HI1 := Lib.hid hI1
  have HB2 := Lib.hid hb2
  clear ht hz hb2 hI1
  go_enter Tryd.func51, Tryd.ntmps51
  go_wp2_with (go_at_call 46; refine (tooMany_any _ _ _).mono ?_; rintro e w1 ⟨rfl, rfl⟩)
  go_region_held3 (fun W => W.heap[w.heap.size]? = some (.cells (itemCs k 0 ⟨#[]⟩) 58 (0, 0)) ∧ W.cell? ⟨w.heap.size, 0, none⟩ = some (.int .i64 k) ∧ W.cell? ⟨w.heap.size, 1, none⟩ = some (.int .u64 0) ∧ W.cell? ⟨w.heap.size, 2, none⟩ = some (.string ⟨#[]⟩))
    (first | (exact BoxS.step HS0.out (Below.refl _ _).drew) | (assumption) | (exact BoxS.step (by assumption) ((Below.refl _ _).alloc (Nat.le_refl _) _)) | (exact BoxS.step HS0.out ((Below.refl _ _).alloc (Nat.le_refl _) _).drew))
    (first | (go_at_call 74; refine (concat_nil _ _ _).mono ?_; rintro e w2 ⟨rfl, rfl⟩) | (refine step_items_none rfl (.tmp 21) (.tmp 23) rfl (w.heap.size + 1) (.slice (some ⟨w.heap.size + 1, 0, none⟩) 1 1) 1 [⟨k, 0, ⟨#[]⟩⟩] (by exact own_lit2 w k 0 ⟨#[]⟩) rfl rfl ?_))
  all_goals
    clear HS0
    go_wp2_with (go_at_call 18; refine HC.out.mono ?_; rintro e w4 ⟨rfl, hb4⟩)
    go_ret2
    have hb5 := HB2.out.trans (hb4.mono HB2.out.size)
    exact ⟨.slice (some ⟨w.heap.size + 1, 0, none⟩) 1 1, rfl, itemsAt_mono ((itemsAt_mono HI1.out (by simp)).below hb4) hb4.size, fun a c e => by dsimp only at e ⊢; simp only [Value.slice.injEq, List.length_cons, List.length_nil] at e ⊢; omega, hb5⟩

def contE (k : Int) (n : Nat) (ls : List (List It)) : Int × List It := if validE (⟨k, n, ⟨#[]⟩⟩ :: ls.flatten) = 0 then (0, ⟨k, n, ⟨#[]⟩⟩ :: ls.flatten) else (validE (⟨k, n, ⟨#[]⟩⟩ :: ls.flatten), [])
theorem total_pos {ls : List (List It)} (h : ls ≠ []) (hne : ∀ l ∈ ls, l ≠ []) : 1 ≤ total ls := by
  cases ls with
  | nil => exact absurd rfl h
  | cons a r =>
    have := List.length_pos_iff.2 (hne a (by simp))
    simp [total]
    omega
theorem cont_any (k : Int) (n : Nat) (V : Value) (ls : List (List It)) (w : World) (hV : VS w w.heap.size V ls) (ht : Tabs w) (hk : k = 5 ∨ k = 6) (hn : n ≤ 512) (hn0 : ls = [] → n = 0) (hne : ∀ l ∈ ls, l ≠ []) (h2 : total ls ≤ 1000000) (hls : ls.length ≤ 1000000) :
    Calls Tryd.prog 51 #[.int .i64 k, .int .i64 n, V] w (ResP (contE k n ls) w) := by
  have hok := hV.ok
  by_cases h0 : ls = []
  · subst h0
    have hn1 := hn0 rfl
    subst hn1
    have hz : validE [⟨k, 0, ⟨#[]⟩⟩] = 0 := by rcases hk with rfl | rfl <;> decide +kernel
    obtain ⟨A, cap, rfl⟩ := hV.len
    have e : contE k 0 [] = (0, [⟨k, 0, ⟨#[]⟩⟩]) := if_pos hz
    rw [e]
    exact container_nil k A cap w hk ht
  · rcases hV with ⟨_, h1⟩ | ⟨cb, cap, rfl, hV⟩
    · exact absurd h1 h0
    · have h1 := total_pos h0 hne
      unfold contE
      by_cases hz : validE (⟨k, n, ⟨#[]⟩⟩ :: ls.flatten) = 0
      · rw [if_pos hz]
        refine (container_good k n cb cap ls w (hV.full hne) ht hk hn h1 h2 hls hok _ rfl hz).mono ?_
        rintro e w' ⟨v, rfl, hI, hcp, hb⟩
        exact ⟨v, rfl, hI, hcp, hb⟩
      · rw [if_neg hz]
        refine (container_bad k n cb cap ls w (hV.full hne) ht hk hn h1 h2 hls hok _ rfl hz).mono ?_
        rintro e w' ⟨rfl, hb⟩
        exact ⟨_, rfl, itemsAt_nil _ _, nil_cap, hb⟩

def arrayE (ls : List (List It)) : Int × List It := if valAllE ls = 0 then contE 5 ls.length ls else (valAllE ls, [])
set_option maxRecDepth 100000 in
set_option maxHeartbeats 1000000 in
theorem array_any (V : Value) (ls : List (List It)) (w : World) (hV : VS w w.heap.size V ls) (ht : Tabs w) (hn : ls.length ≤ 512) (h2 : total ls ≤ 1000000) :
    Calls Tryd.prog 32 #[V] w (ResP (arrayE ls) w) := by
  have HA := Lib.hid (valsAll_any V ls w hV ht (by omega))
  have HV := Lib.hid hV
  have HT := Lib.hid ht
  unfold arrayE
  by_cases hz : valAllE ls = 0
  · rw [if_pos hz]
    have hne := fun l hl => (valAll_ne hz l hl).1
    have HC := Lib.hid (fun (W : World) (hW : Below w.heap.size w W) => cont_any 5 ls.length V ls W ((HV.out.below hW).mono hW.size) (HT.out.later hW) (.inl rfl) hn (fun h => by rw [h]; rfl) hne h2 (by omega))
    have hzb : (valAllE ls != 0) = false := by simp [hz]
    generalize contE 5 ls.length ls = r at *
    obtain ⟨A, cap, rfl⟩ := hV.len
    clear hV ht hz hne
    go_enter Tryd.func32, Tryd.ntmps32
    go_wp2_with fail
    refine HA.out.mono ?_
    rintro e w1 ⟨rfl, hb1⟩
    have HB1 := Lib.hid hb1
    clear hb1
    go_wp2_with fail
    refine (HC.out _ HB1.out).mono ?_
    rintro e w2 ⟨v, rfl, hI, hcp, hb2⟩
    go_wp2
    go_ret2
    exact ⟨v, rfl, hI, hcp, HB1.out.trans (hb2.mono HB1.out.size)⟩
  · rw [if_neg hz]
    have hzb : (valAllE ls != 0) = true := by simp [hz]
    obtain ⟨A, cap, rfl⟩ := hV.len
    clear hV ht hz
    go_enter Tryd.func32, Tryd.ntmps32
    go_wp2_with fail
    refine HA.out.mono ?_
    rintro e w1 ⟨rfl, hb1⟩
    go_wp2
    go_ret2
    exact ⟨_, rfl, itemsAt_nil _ _, nil_cap, hb1⟩
end Go.Proofs.YtepinmeidjlmmaaDoor

namespace Go.Proofs.YtepinmeidjlmmaaDoor
open Go.RowKit

def itA : List It := [⟨1, 24, ⟨#[]⟩⟩]
def itT : List It := [⟨4, 0, ⟨#[97]⟩⟩]
def itM : List It := [⟨6, 1, ⟨#[]⟩⟩, ⟨1, 1, ⟨#[]⟩⟩, ⟨4, 0, ⟨#[97]⟩⟩]
theorem validA : validE itA = 0 := by decide +kernel
theorem encA : encAll itA = [24, 24] := by decide +kernel
theorem validT : validE itT = 0 := by decide +kernel
theorem validM : validE itM = 0 := by decide +kernel
theorem encM : encAll itM = [161, 1, 97, 97] := by decide +kernel

theorem encode_fix (l : List It) (bs : List Int) (n : Nat) (v : Value) (w : World) (hI : ItemsAt w w.heap.size v l) (ht : Tabs w) (hz : validE l = 0) (hb : encAll l = bs) (hn : bs.length = n) (hn0 : 0 < n) :
    Calls Tryd.prog 16 #[v] w fun e w' => ∃ g cap, e = .returned (.tuple #[.slice (some ⟨g, 0, none⟩) n cap, .int .i64 0]) ∧ g < w'.heap.size ∧ (∀ i, i < n → w'.cell? ⟨g, i, none⟩ = some (.int .u8 (bs.getD i 0))) ∧ Below w.heap.size w w' := by
  refine (encode_good l v w hI ht hz).mono ?_
  rintro e w' ⟨v', rfl, ho, hbl⟩
  rw [hb, hn] at ho
  obtain ⟨g, cap, rfl, hg, hlt⟩ := own_slice ho hn0
  exact ⟨g, cap, rfl, hlt, own_cells ho, hbl⟩

theorem hW4 (w : World) (o1 o2 o3 : Obj) : (((w.alloc o1).alloc o2).alloc o3).cell? ⟨w.heap.size, 0, none⟩ = (w.alloc o1).cell? ⟨w.heap.size, 0, none⟩ :=
  (((((Below.refl _ (w.alloc o1)).alloc (Nat.le_refl _) o2).alloc (by simp) o3)).cell (p := ⟨w.heap.size, 0, none⟩) (by simp))

set_option maxRecDepth 100000 in
set_option maxHeartbeats 1000000 in
theorem awake_any (w : World) (ht : Tabs w) : Calls Tryd.prog 15 #[] w fun e w' => e = .returned (.bool true) ∧ Below w.heap.size w w' := by
  have hB1 : Below w.heap.size w (w.alloc (.cells #[.int .i64 1, .int .u64 24, .string ⟨#[]⟩] 58)) := (Below.refl _ w).alloc (Nat.le_refl _) _
  have C1 := encode_fix itA [24, 24] 2 (.slice (some ⟨w.heap.size, 0, none⟩) 1 1) _ (itemsAt_one (by simp) (heap_new w (.cells (itemCs 1 24 ⟨#[]⟩) 58)) (by omega) (Nat.zero_le _)) (ht.later hB1) validA encA rfl (by omega)
  have HC1 := Lib.hid C1
  have HT := Lib.hid ht
  have HB1 := Lib.hid hB1
  clear C1 ht hB1
  go_enter Tryd.func15, Tryd.ntmps15
  go_wp2_with (go_at_call 16; refine HC1.out.mono ?_; rintro e w1 ⟨g1, cap1, rfl, hg1, hc1, hb1⟩)
  refine (text_any _ _).mono ?_
  rintro e w2 ⟨rfl, rfl⟩
  have hb1' := HB1.out.trans (hb1.mono HB1.out.size)
  have hW3 : Below w1.heap.size w1 (((w1.alloc (.cells #[.int .u64 1] 45)).alloc (.cells (itemCs 4 0 ⟨#[97]⟩) 58)).alloc (.cells #[.slice (some ⟨w1.heap.size + 1, 0, none⟩) 1 1] 22)) := (((Below.refl _ w1).alloc (Nat.le_refl _) _).alloc (by simp) _).alloc (by simp; omega) _
  have hb3 := hb1'.trans (hW3.mono hb1'.size)
  have C3 := map1 w1.heap.size (w1.heap.size + 2) 1 (w1.heap.size + 1) 0 1 itT (((w1.alloc (.cells #[.int .u64 1] 45)).alloc (.cells (itemCs 4 0 ⟨#[97]⟩) 58)).alloc (.cells #[.slice (some ⟨w1.heap.size + 1, 0, none⟩) 1 1] 22)) (by simp; omega) (by simp)
    ((hW4 w1 _ _ _).trans (by simp)) (cell_of_block (heap_new5 w1 _ _ _) rfl) (itemsAt_one (by simp) (heap_new6 w1 _ _ _) (by omega) (by unfold maxLen; decide)) (HT.out.later hb3) (by omega) (by decide) validT validM
  have HC3 := Lib.hid C3
  have HB3 := Lib.hid hb3
  have HC1c := Lib.hid (fun i hi => (hW3.cell (p := ⟨g1, i, none⟩) hg1).trans (hc1 i hi))
  clear C3 hb3 hW3 hb1' hb1 hc1
  go_wp2_with fail
  refine HC3.out.mono ?_
  rintro e w4 ⟨v4, rfl, hI4, hb4⟩
  have hb4' := HB3.out.trans (hb4.mono HB3.out.size)
  have C4 := encode_fix itM [161, 1, 97, 97] 4 v4 w4 hI4 (HT.out.later hb4') validM encM rfl (by omega)
  have HC4 := Lib.hid C4
  have HB4 := Lib.hid hb4'
  have hg14 : g1 < w4.heap.size := by have := hb4.size; simp at this; omega
  have HC1d := Lib.hid (fun i hi => (hb4.cell (p := ⟨g1, i, none⟩) (by simp; omega)).trans (HC1c.out i hi))
  clear C4 hI4 hb4 hb4' HC3 HC1c HC1 HB3 HB1
  go_wp2_with fail
  refine HC4.out.mono ?_
  rintro e w5 ⟨g2, cap2, rfl, hg2, hc2, hb5⟩
  have hb5' := HB4.out.trans (hb5.mono HB4.out.size)
  have hW6 : Below w5.heap.size w5 (w5.alloc (.cells #[.int .u8 24, .int .u8 23] 5)) := (Below.refl _ w5).alloc (Nat.le_refl _) _
  have hb6' := hb5'.trans (hW6.mono hb5'.size)
  have C6 := decode24_bad w5.heap.size 0 2 2 23 (w5.alloc (.cells #[.int .u8 24, .int .u8 23] 5)) (by simp) (by omega) (by omega) (by omega) (by simp) (by simp) (by omega) (by omega)
  have HC6 := Lib.hid C6
  have HB6 := Lib.hid hb6'
  have hg16 : g1 < (w5.alloc (.cells #[.int .u8 24, .int .u8 23] 5)).heap.size := by have := hb5.size; simp; omega
  have HC1e := Lib.hid (fun i hi => (hW6.cell (p := ⟨g1, i, none⟩) (by have := hb5.size; show g1 < _; omega)).trans ((hb5.cell (p := ⟨g1, i, none⟩) hg14).trans (HC1d.out i hi)))
  have HC2e := Lib.hid (fun i hi => (hW6.cell (p := ⟨g2, i, none⟩) hg2).trans (hc2 i hi))
  have hg26 : g2 < (w5.alloc (.cells #[.int .u8 24, .int .u8 23] 5)).heap.size := by simp; omega
  clear C6 hb6' hW6 hb5' hb5 hc2 HC4 HC1d HB4
  go_wp2_with fail
  refine HC6.out.mono ?_
  rintro e w7 ⟨rfl, hb7⟩
  have k1 : (convert 25 9 (.slice (some ⟨g1, 0, none⟩) 2 cap1)).run Tryd.prog w7 = .ok (.string ⟨#[24, 24]⟩) w7 :=
    run_convert_bytes_arg w7 25 5 Tryd.underlying25 Tryd.underlying5 g1 0 2 cap1 [24, 24] rfl (fun i hi => by rw [Nat.zero_add]; exact (hb7.cell (p := ⟨g1, i, none⟩) hg16).trans (HC1e.out i hi)) 9 Tryd.underlying9
  have k2 : (convert 25 9 (.slice (some ⟨g2, 0, none⟩) 4 cap2)).run Tryd.prog w7 = .ok (.string ⟨#[161, 1, 97, 97]⟩) w7 :=
    run_convert_bytes_arg w7 25 5 Tryd.underlying25 Tryd.underlying5 g2 0 4 cap2 [161, 1, 97, 97] rfl (fun i hi => by rw [Nat.zero_add]; exact (hb7.cell (p := ⟨g2, i, none⟩) hg26).trans (HC2e.out i hi)) 9 Tryd.underlying9
  have HB7 := Lib.hid (HB6.out.trans (hb7.mono HB6.out.size))
  clear hb7 HC1e HC2e HC6 HB6 hg16 hg26
  go_wp2
  go_ret
  exact ⟨rfl, HB7.out⟩

set_option maxRecDepth 100000 in
set_option maxHeartbeats 1000000 in
/-- two slices that read as the same items -/
theorem same_any (v1 v2 : Value) (B1 B2 : Nat) (l : List It) (w : World) (h1 : ItemsAt w B1 v1 l) (h2 : ItemsAt w B2 v2 l) :
    Calls Tryd.prog 24 #[v1, v2] w fun e w' => e = .returned (.bool true) ∧ ∃ m, w.drewN m = w' := by
  have hlen := h1.len
  rcases h1.form with ⟨rfl, rfl⟩ | ⟨b, off, cap, rfl, hb, hc⟩
  · rcases h2.form with ⟨rfl, _⟩ | ⟨b2, off2, cap2, rfl, hb2, hc2⟩
    · clear h1 h2
      go_enter Tryd.func24, Tryd.ntmps24
      go_wp2_with fail
      refine wp_loop_rounds 1 ?_
      rw [rounds_succ]
      go_wp2
      go_ret
      exact ⟨rfl, 0, rfl⟩
    · clear h1 h2 hc2
      go_enter Tryd.func24, Tryd.ntmps24
      go_wp2_with fail
      refine wp_loop_rounds 1 ?_
      rw [rounds_succ]
      go_wp2
      go_ret
      exact ⟨rfl, 0, rfl⟩
  · rcases h2.form with ⟨rfl, rfl⟩ | ⟨b2, off2, cap2, rfl, hb2, hc2⟩
    · clear h1 h2 hc
      go_enter Tryd.func24, Tryd.ntmps24
      go_wp2_with fail
      refine wp_loop_rounds 1 ?_
      rw [rounds_succ]
      go_wp2
      go_ret
      exact ⟨rfl, 0, rfl⟩
    · have H1 := Lib.hid hc
      have H2 := Lib.hid hc2
      clear h1 h2 hc hc2
      go_enter Tryd.func24, Tryd.ntmps24
      go_wp2_with fail
      go_loopw [5] (fun i wr => ∃ j : Nat, j ≤ l.length ∧ i = .int .i64 j ∧ ∃ m, w.drewN m = wr) (fun i _ => l.length - (intOf i).toNat)
      case atStart => exact ⟨0, by omega, rfl, 0, rfl⟩
      case round =>
        obtain ⟨j, hj, rfl, m, rfl⟩ := hrel
        by_cases hlt : j < l.length
        · obtain ⟨q0, q1, q2⟩ := H1.out j hlt
          obtain ⟨r0, r1, r2⟩ := H2.out j hlt
          generalize l[j] = x at q0 q1 q2 r0 r1 r2
          go_wp2_with fail
          go_quiet (fail)
          go_wp2_with fail
          go_roundw
          case rel => exact ⟨j + 1, by omega, by go_num, m + nq, rfl⟩
          case measure => simp [intOf]; omega
        · go_wp2
          go_ret
          exact ⟨rfl, m, rfl⟩
end Go.Proofs.YtepinmeidjlmmaaDoor
