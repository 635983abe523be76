import Derived.Test.YtepinmeidjlmmaaDoorB5
namespace Go.Proofs.YtepinmeidjlmmaaDoor
open Go.RowKit

set_option maxRecDepth 100000 in
set_option maxHeartbeats 1000000 in
theorem pairs1 (kb vb : Nat) (key : Int) (a : Option Addr) (n c : Nat) (w : World) (hk : kb < w.heap.size) (hv : vb < w.heap.size) (h0 : w.cell? ⟨kb, 0, none⟩ = some (.int .u64 key)) (h1 : w.cell? ⟨vb, 0, none⟩ = some (.slice a n c)) :
    Calls Tryd.prog 49 #[.slice (some ⟨kb, 0, none⟩) 1 1, .slice (some ⟨vb, 0, none⟩) 1 1] w fun e w' => e = .returned (.slice (some ⟨w.heap.size, 0, none⟩) 1 1) ∧ w.alloc (.cells #[.int .u64 key, .slice a n c] 90) = w' := by
  have hmk : ∀ w : World, (Instr.makeSlice 87 (.int .i64 1) (.int .i64 1)).run Tryd.prog w = .ok (.slice (some ⟨w.heap.size, 0, none⟩) 1 1) (w.alloc (.cells #[.int .u64 0, .slice none 0 0] 90)) := fun _ => by kernel_rfl
  go_enter Tryd.func49, Tryd.ntmps49
  go_wp2_with fail
  go_loopw [13] (fun i wr => (i = .int .i64 0 ∧ w.alloc (.cells #[.int .u64 0, .slice none 0 0] 90) = wr) ∨ (i = .int .i64 1 ∧ w.alloc (.cells #[.int .u64 key, .slice a n c] 90) = wr)) (fun i _ => 1 - (intOf i).toNat)
  case atStart => exact .inl ⟨rfl, rfl⟩
  case round =>
    rcases hrel with ⟨rfl, rfl⟩ | ⟨rfl, rfl⟩
    · go_wp2
      go_roundw
      case rel => simp
      case measure => simp [intOf]
    · go_wp2_with (go_at_call 71; refine (sort1 _ _ _ _).mono ?_; rintro e w' ⟨rfl, rfl⟩)
      go_ret
      exact ⟨rfl, rfl⟩

theorem info22 : (Tryd.prog.info? 22).map (fun i => (i.zero, i.size, i.bytes)) = some (some (.slice none 0 0), 1, 24) := by kernel_rfl

/-- append(nil, a, b) of two slices, as one step of a region -/
theorem step_two {ops : Array Oper} {o : Oper} {a : Act} {W : World} {K : Act → World → Prop} {Q : Exit → Act → World → Prop} {E : Prop} (hgd : o.guard = none) (s x : Operand)
    (ho : o.op = .call { callee := .builtin .append, args := #[s, x], argTypes := #[50, 50] }) (a1 a2 : Option Addr) (n1 c1 n2 c2 B : Nat) (hs : a.eval s = .slice none 0 0)
    (hB : W.heap[B]? = some (.cells #[.slice a1 n1 c1, .slice a2 n2 c2] 22 (0, 0))) (hx : a.eval x = .slice (some ⟨B, 0, none⟩) 2 2)
    (h : ∀ g cap w', g < w'.heap.size → w'.cell? ⟨g, 0, none⟩ = some (.slice a1 n1 c1) → w'.cell? ⟨g, 1, none⟩ = some (.slice a2 n2 c2) → Below W.heap.size W w' → K (a.put o.dst (.slice (some ⟨g, 0, none⟩) 2 cap)) w') :
    if Region.wanted o (yielded ops a.tmps) = true then Oper.wp Tryd.prog o a W K Q else E := by
  have hw : Region.wanted o (yielded ops a.tmps) = true := by simp [Region.wanted, hgd]
  rw [if_pos hw]
  obtain ⟨i0, hi, hz0, hz1, hz2⟩ := info_parts info22
  refine wp_append_own W s x 50 ho W.heap.size 22 i0 _ 1 24 Tryd.underlying50 hi hz0 hz1 hz2 rfl (by decide) (.slice none 0 0) 0 [] hs (World.ownsRow_nil _ _ _ _) ⟨B, 0, none⟩ 2 2 [.slice a1 n1 c1, .slice a2 n2 c2] hx rfl ?_ (by simp [Value.oneCell']) (by unfold maxLen; omega) (by omega) (Nat.le_refl _) ?_
  · intro j u hj
    have e : (⟨B, 0, none⟩ : Addr).add j = ⟨B, j, none⟩ := by unfold Addr.add; split <;> simp_all
    rw [e]
    exact cell_of_block hB (by simpa using hj)
  intro v' w' h1 h2 _
  obtain ⟨g, cap, rfl⟩ : ∃ g cap, v' = .slice (some ⟨g, 0, none⟩) 2 cap := by
    rcases h1.2 with ⟨_, h⟩ | ⟨g, cap, _, h, _⟩
    · omega
    · exact ⟨g, cap, h⟩
  refine h g cap w' (h1.lt g rfl).2 ?_ ?_ (below_of_grown (World.ownsRow_nil W W.heap.size 22 1) (Nat.le_refl _) h2)
  · rw [h1.cellAt 0 (by omega)]; rfl
  · rw [h1.cellAt 1 (by omega)]; rfl

theorem heap_new5 (w : World) (o1 o2 o3 : Obj) : (((w.alloc o1).alloc o2).alloc o3).heap[w.heap.size + 2]? = some o3 := by
  have h := heap_new ((w.alloc o1).alloc o2) o3
  rw [show ((w.alloc o1).alloc o2).heap.size = w.heap.size + 2 from by simp] at h
  exact h

theorem heap_new6 (w : World) (o1 o2 o3 : Obj) : (((w.alloc o1).alloc o2).alloc o3).heap[w.heap.size + 1]? = some o2 := by
  rw [Below.heap_alloc _ _ _ (by simp)]; exact heap_new3 w o1 o2

set_option maxRecDepth 100000 in
set_option maxHeartbeats 1000000 in
theorem map1 (kb vb : Nat) (key : Int) (b off cap : Nat) (l : List It) (w : World) (hk : kb < w.heap.size) (hv : vb < w.heap.size) (h0 : w.cell? ⟨kb, 0, none⟩ = some (.int .u64 key)) (h1 : w.cell? ⟨vb, 0, none⟩ = some (.slice (some ⟨b, off, none⟩) l.length cap))
    (hI : ItemsAt w w.heap.size (.slice (some ⟨b, off, none⟩) l.length cap) l) (ht : Tabs w) (hk0 : 0 ≤ key) (hl : l.length ≤ 100000) (hz : validE l = 0) (hz2 : validE (⟨6, 1, ⟨#[]⟩⟩ :: ⟨1, key, ⟨#[]⟩⟩ :: l) = 0) :
    Calls Tryd.prog 30 #[.slice (some ⟨kb, 0, none⟩) 1 1, .slice (some ⟨vb, 0, none⟩) 1 1] w fun e w' => ∃ v, e = .returned (.tuple #[v, .int .i64 0]) ∧ ItemsAt w' w'.heap.size v (⟨6, 1, ⟨#[]⟩⟩ :: ⟨1, key, ⟨#[]⟩⟩ :: l) ∧ Below w.heap.size w w' := by
  have hne : l ≠ [] := by rintro rfl; exact absurd hz (by decide)
  have hB1 : Below w.heap.size w (w.alloc (.cells #[.int .u64 key, .slice (some ⟨b, off, none⟩) l.length cap] 90)) := (Below.refl _ w).alloc (Nat.le_refl _) _
  have hV1 : ValsAt (w.alloc (.cells #[.int .u64 key, .slice (some ⟨b, off, none⟩) l.length cap] 90)) (w.alloc (.cells #[.int .u64 key, .slice (some ⟨b, off, none⟩) l.length cap] 90)).heap.size vb [l] :=
    ⟨by simp; omega, fun i hi => by
      obtain rfl : i = 0 := by simp at hi; omega
      exact ⟨b, off, cap, (hB1.cell (p := ⟨vb, 0, none⟩) hv).trans h1, itemsAt_mono (hI.below hB1) (by simp)⟩, by intro x hx; simp at hx; subst hx; exact hne⟩
  have hA : valAllE [l] = 0 := by rw [valAll_yes hz]; rfl
  have C50 := validateAll_any vb 1 [l] _ hV1 (ht.later hB1) (by simp)
  rw [hA] at C50
  have HC50 := Lib.hid C50
  have HB1 := Lib.hid hB1
  have HP := Lib.hid (pairs1 kb vb key (some ⟨b, off, none⟩) l.length cap w hk hv h0 h1)
  have HI := Lib.hid hI
  have HT := Lib.hid ht
  have HZ2 := Lib.hid hz2
  have HNE := Lib.hid hne
  clear hV1 hA C50 hB1 hI ht hz hz2 hne h0 h1
  go_enter Tryd.func30, Tryd.ntmps30
  go_wp2_with (go_at_call 49; refine HP.out.mono ?_; rintro e w1 ⟨rfl, rfl⟩)
  refine wp_loop_rounds 1 ?_
  rw [rounds_succ]
  go_wp2_with (go_at_call 50; refine HC50.out.mono ?_; rintro e w2 ⟨rfl, hb2⟩)
  have p0 : w2.cell? ⟨w.heap.size, 0, none⟩ = some (.int .u64 key) := (hb2.cell (p := ⟨w.heap.size, 0, none⟩) (by simp)).trans (by simp)
  have p1 : w2.cell? ⟨w.heap.size, 1, none⟩ = some (.slice (some ⟨b, off, none⟩) l.length cap) := (hb2.cell (p := ⟨w.heap.size, 1, none⟩) (by simp)).trans (by simp)
  have hbw := HB1.out.trans (hb2.mono HB1.out.size)
  have HBW := Lib.hid hbw
  have HP0 := Lib.hid p0
  have HP1 := Lib.hid p1
  have hsz2 : w.heap.size < w2.heap.size := by have := hb2.size; simp at this; omega
  clear hbw hb2 p0 p1
  go_loopw [9, 45] (fun v i wr => Below w.heap.size w wr ∧ w.heap.size < wr.heap.size ∧ ((i = .int .i64 0 ∧ v = .slice none 0 0 ∧ wr.cell? ⟨w.heap.size, 0, none⟩ = some (.int .u64 key) ∧ wr.cell? ⟨w.heap.size, 1, none⟩ = some (.slice (some ⟨b, off, none⟩) l.length cap)) ∨ (i = .int .i64 1 ∧ ∃ cb cc, v = .slice (some ⟨cb, 0, none⟩) 2 cc ∧ ValsAt wr wr.heap.size cb [[⟨1, key, ⟨#[]⟩⟩], l]))) (fun _ i _ => 1 - (intOf i).toNat)
  case atStart => exact ⟨HBW.out, hsz2, .inl ⟨rfl, rfl, HP0.out, HP1.out⟩⟩
  case round =>
    obtain ⟨hbr, hsr, ⟨rfl, rfl, q0, q1⟩ | ⟨rfl, cb, cc, rfl, hV⟩⟩ := hrel
    · have HBR := Lib.hid hbr
      clear hbr
      have hW : Below wr.heap.size wr (((wr.alloc (.cells #[.int .u64 key, .slice (some ⟨b, off, none⟩) l.length cap] 90)).alloc (.cells (itemCs 1 key ⟨#[]⟩) 58)).alloc (.cells #[.slice (some ⟨wr.heap.size + 1, 0, none⟩) 1 1, .slice (some ⟨b, off, none⟩) l.length cap] 22)) := (((Below.refl _ wr).alloc (Nat.le_refl _) _).alloc (by simp) _).alloc (by simp; omega) _
      have HW := Lib.hid hW
      clear hW
      go_wp2_with fail
      go_region_held3 (fun W => W.cell? ⟨wr.heap.size, 0, none⟩ = some (.int .u64 key) ∧ W.cell? ⟨wr.heap.size, 1, none⟩ = some (.slice (some ⟨b, off, none⟩) l.length cap))
        (first | (((try refine ⟨?_, ?_⟩) <;> go_simp); done) | (exact ⟨(hb3.cell (p := ⟨wr.heap.size, 0, none⟩) (by simp <;> omega)).trans (And.left (by assumption)), (hb3.cell (p := ⟨wr.heap.size, 1, none⟩) (by simp <;> omega)).trans (And.right (by assumption))⟩))
        (first | (go_at_call 34; refine (uint_any _ _).mono ?_; rintro e w3 ⟨rfl, rfl⟩) | (refine step_two rfl (.tmp 49) (.tmp 55) rfl (some ⟨wr.heap.size + 1, 0, none⟩) (some ⟨b, off, none⟩) 1 1 l.length cap (wr.heap.size + 2) rfl (by exact heap_new5 wr _ _ _) rfl ?_; intro g gc w4 hg4 e0 e1 hb3))
      have hb4 := HW.out.drew.trans (hb3.mono HW.out.drew.size)
      have hit : w4.heap[wr.heap.size + 1]? = some (.cells (itemCs 1 key ⟨#[]⟩) 58 (0, 0)) := (hb3.block (wr.heap.size + 1) (by simp)).trans (heap_new6 wr _ _ _)
      have hs4 := hb4.size
      have hlt4 : wr.heap.size + 1 < w4.heap.size := lt_of_heap hit
      have hV4 : ValsAt w4 w4.heap.size g [[⟨1, key, ⟨#[]⟩⟩], l] := ⟨hg4, fun i hi => by
        have hi2 : i = 0 ∨ i = 1 := by simp at hi; omega
        rcases hi2 with rfl | rfl
        · exact ⟨_, 0, 1, e0, itemsAt_one hlt4 hit hk0 (Nat.zero_le _)⟩
        · exact ⟨b, off, cap, e1, itemsAt_mono ((HI.out.below HBR.out).below (hb4.mono (Nat.le_of_lt hsr))) (by omega)⟩, by
        intro x hx
        simp only [List.mem_cons, List.not_mem_nil, or_false] at hx
        rcases hx with rfl | rfl
        · simp
        · exact HNE.out⟩
      have HV4 := Lib.hid hV4
      have HB4 := Lib.hid hb4
      clear hV4 hit hb3 hb4 e0 e1
      go_split_ands
      go_wp2_with fail
      go_roundw
      case rel => exact ⟨HBR.out.trans (HB4.out.mono (Nat.le_of_lt hsr)), by omega, .inr ⟨rfl, g, gc, rfl, HV4.out⟩⟩
      case measure => simp [intOf]
    · have HBR := Lib.hid hbr
      have hC := container_any 6 1 cb cc [[⟨1, key, ⟨#[]⟩⟩], l] wr hV (HT.out.later hbr) (.inr rfl) (by omega) (by simp [total]) (by simp [total]; omega) (by simp) (by
        intro y hy x hx
        simp only [List.mem_cons, List.not_mem_nil, or_false] at hy
        rcases hy with rfl | rfl
        · simp only [List.mem_cons, List.not_mem_nil, or_false] at hx
          subst hx
          exact ⟨hk0, Nat.zero_le _⟩
        · exact HI.out.ok x hx) (⟨1, key, ⟨#[]⟩⟩ :: l) (by simp) HZ2.out
      have HC := Lib.hid hC
      clear hbr hC hV
      go_wp2_with (go_at_call 51; refine HC.out.mono ?_; rintro e w3 ⟨v3, rfl, hI3, hs3, hb3⟩)
      go_ret2
      exact ⟨v3, rfl, hI3, HBR.out.trans (hb3.mono HBR.out.size)⟩
end Go.Proofs.YtepinmeidjlmmaaDoor
