/- Joined: B6, B7, E1, E2, E3. -/
import Derived.Test.YtepinmeidjlmmaaDoorN3
import Derived.Deep.RegionWith
namespace Go.Proofs.YtepinmeidjlmmaaDoor
open Go.RowKit

set_option maxRecDepth 100000 in
set_option maxHeartbeats 1000000 in
theorem pairs1 (kb vb : Nat) (key : Int) (a : Option Addr) (n c : Nat) (w : World) (hk : kb < w.heap.size) (hv : vb < w.heap.size) (h0 : w.cell? ⟨kb, 0, none⟩ = some (.int .u64 key)) (h1 : w.cell? ⟨vb, 0, none⟩ = some (.slice a n c)) :
    Calls Tryd.prog 49 #[.slice (some ⟨kb, 0, none⟩) 1 1, .slice (some ⟨vb, 0, none⟩) 1 1] w fun e w' => e = .returned (.slice (some ⟨w.heap.size, 0, none⟩) 1 1) ∧ w.alloc (.cells #[.int .u64 key, .slice a n c] 90) = w' := by
  have hmk : ∀ w : World, (Instr.makeSlice 87 (.int .i64 1) (.int .i64 1)).run Tryd.prog w = .ok (.slice (some ⟨w.heap.size, 0, none⟩) 1 1) (w.alloc (.cells #[.int .u64 0, .slice none 0 0] 90)) := fun _ => by kernel_rfl
  go_enter Tryd.func49, Tryd.ntmps49
  go_wp2_with fail
  go_loopw [13] (fun i wr => (i = .int .i64 0 ∧ w.alloc (.cells #[.int .u64 0, .slice none 0 0] 90) = wr) ∨ (i = .int .i64 1 ∧ w.alloc (.cells #[.int .u64 key, .slice a n c] 90) = wr)) (fun i _ => 1 - (intOf i).toNat)
  case atStart => exact .inl ⟨rfl, rfl⟩
  case round =>
    rcases hrel with ⟨rfl, rfl⟩ | ⟨rfl, rfl⟩
    · go_wp2
      go_roundw
      case rel => simp
      case measure => simp [intOf]
    · go_wp2_with (go_at_call 71; refine (sort1 _ _ _ _).mono ?_; rintro e w' ⟨rfl, rfl⟩)
      go_ret
      exact ⟨rfl, rfl⟩

theorem info22 : (Tryd.prog.info? 22).map (fun i => (i.zero, i.size, i.bytes)) = some (some (.slice none 0 0), 1, 24) := by kernel_rfl

/-- append(nil, a, b) of two slices, as one step of a region -/
theorem step_two {ops : Array Oper} {o : Oper} {a : Act} {W : World} {K : Act → World → Prop} {Q : Exit → Act → World → Prop} {E : Prop} (hgd : o.guard = none) (s x : Operand)
    (ho : o.op = .call { callee := .builtin .append, args := #[s, x], argTypes := #[50, 50] }) (a1 a2 : Option Addr) (n1 c1 n2 c2 B : Nat) (hs : a.eval s = .slice none 0 0)
    (hB : W.heap[B]? = some (.cells #[.slice a1 n1 c1, .slice a2 n2 c2] 22 (0, 0))) (hx : a.eval x = .slice (some ⟨B, 0, none⟩) 2 2)
    (h : ∀ g cap w', g < w'.heap.size → w'.cell? ⟨g, 0, none⟩ = some (.slice a1 n1 c1) → w'.cell? ⟨g, 1, none⟩ = some (.slice a2 n2 c2) → Below W.heap.size W w' → K (a.put o.dst (.slice (some ⟨g, 0, none⟩) 2 cap)) w') :
    if Region.wanted o (yielded ops a.tmps) = true then Oper.wp Tryd.prog o a W K Q else E := by
  have hw : Region.wanted o (yielded ops a.tmps) = true := by simp [Region.wanted, hgd]
  rw [if_pos hw]
  obtain ⟨i0, hi, hz0, hz1, hz2⟩ := info_parts info22
  refine wp_append_own W s x 50 ho W.heap.size 22 i0 _ 1 24 Tryd.underlying50 hi hz0 hz1 hz2 rfl (by decide) (.slice none 0 0) 0 [] hs (World.ownsRow_nil _ _ _ _) ⟨B, 0, none⟩ 2 2 [.slice a1 n1 c1, .slice a2 n2 c2] hx rfl ?_ (by simp [Value.oneCell']) (by unfold maxLen; omega) (by omega) (Nat.le_refl _) ?_
  · intro j u hj
    have e : (⟨B, 0, none⟩ : Addr).add j = ⟨B, j, none⟩ := by unfold Addr.add; split <;> simp_all
    rw [e]
    exact cell_of_block hB (by simpa using hj)
  intro v' w' h1 h2 _
  obtain ⟨g, cap, rfl⟩ : ∃ g cap, v' = .slice (some ⟨g, 0, none⟩) 2 cap := by
    rcases h1.2 with ⟨_, h⟩ | ⟨g, cap, _, h, _⟩
    · omega
    · exact ⟨g, cap, h⟩
  refine h g cap w' (h1.lt g rfl).2 ?_ ?_ (below_of_grown (World.ownsRow_nil W W.heap.size 22 1) (Nat.le_refl _) h2)
  · rw [h1.cellAt 0 (by omega)]; rfl
  · rw [h1.cellAt 1 (by omega)]; rfl

theorem heap_new5 (w : World) (o1 o2 o3 : Obj) : (((w.alloc o1).alloc o2).alloc o3).heap[w.heap.size + 2]? = some o3 := by
  have h := heap_new ((w.alloc o1).alloc o2) o3
  rw [show ((w.alloc o1).alloc o2).heap.size = w.heap.size + 2 from by simp] at h
  exact h

theorem heap_new6 (w : World) (o1 o2 o3 : Obj) : (((w.alloc o1).alloc o2).alloc o3).heap[w.heap.size + 1]? = some o2 := by
  rw [Below.heap_alloc _ _ _ (by simp)]; exact heap_new3 w o1 o2

set_option maxRecDepth 100000 in
set_option maxHeartbeats 1000000 in
theorem map1 (kb vb : Nat) (key : Int) (b off cap : Nat) (l : List It) (w : World) (hk : kb < w.heap.size) (hv : vb < w.heap.size) (h0 : w.cell? ⟨kb, 0, none⟩ = some (.int .u64 key)) (h1 : w.cell? ⟨vb, 0, none⟩ = some (.slice (some ⟨b, off, none⟩) l.length cap))
    (hI : ItemsAt w w.heap.size (.slice (some ⟨b, off, none⟩) l.length cap) l) (ht : Tabs w) (hk0 : 0 ≤ key) (hl : l.length ≤ 100000) (hz : validE l = 0) (hz2 : validE (⟨6, 1, ⟨#[]⟩⟩ :: ⟨1, key, ⟨#[]⟩⟩ :: l) = 0) :
    Calls Tryd.prog 30 #[.slice (some ⟨kb, 0, none⟩) 1 1, .slice (some ⟨vb, 0, none⟩) 1 1] w fun e w' => ∃ v, e = .returned (.tuple #[v, .int .i64 0]) ∧ ItemsAt w' w'.heap.size v (⟨6, 1, ⟨#[]⟩⟩ :: ⟨1, key, ⟨#[]⟩⟩ :: l) ∧ Below w.heap.size w w' := by
  have hne : l ≠ [] := by rintro rfl; exact absurd hz (by decide)
  have hB1 : Below w.heap.size w (w.alloc (.cells #[.int .u64 key, .slice (some ⟨b, off, none⟩) l.length cap] 90)) := (Below.refl _ w).alloc (Nat.le_refl _) _
  have hV1 : ValsAt (w.alloc (.cells #[.int .u64 key, .slice (some ⟨b, off, none⟩) l.length cap] 90)) (w.alloc (.cells #[.int .u64 key, .slice (some ⟨b, off, none⟩) l.length cap] 90)).heap.size vb [l] :=
    ⟨by simp; omega, fun i hi => by
      obtain rfl : i = 0 := by simp at hi; omega
      exact ⟨b, off, cap, (hB1.cell (p := ⟨vb, 0, none⟩) hv).trans h1, itemsAt_mono (hI.below hB1) (by simp)⟩, by intro x hx; simp at hx; subst hx; exact hne⟩
  have hA : valAllE [l] = 0 := by rw [valAll_yes hz]; rfl
  have C50 := validateAll_any vb 1 [l] _ hV1 (ht.later hB1) (by simp)
  rw [hA] at C50
  have HC50 := Lib.hid C50
  have HB1 := Lib.hid hB1
  have HP := Lib.hid (pairs1 kb vb key (some ⟨b, off, none⟩) l.length cap w hk hv h0 h1)
  have HI := Lib.hid hI
  have HT := Lib.hid ht
  have HZ2 := Lib.hid hz2
  have HNE := Lib.hid hne
  clear hV1 hA C50 hB1 hI ht hz hz2 hne h0 h1
  go_enter Tryd.func30, Tryd.ntmps30
  go_wp2_with (go_at_call 49; refine HP.out.mono ?_; rintro e w1 ⟨rfl, rfl⟩)
  refine wp_loop_rounds 1 ?_
  rw [rounds_succ]
  go_wp2_with (go_at_call 50; refine HC50.out.mono ?_; rintro e w2 ⟨rfl, hb2⟩)
  have p0 : w2.cell? ⟨w.heap.size, 0, none⟩ = some (.int .u64 key) := (hb2.cell (p := ⟨w.heap.size, 0, none⟩) (by simp)).trans (by simp)
  have p1 : w2.cell? ⟨w.heap.size, 1, none⟩ = some (.slice (some ⟨b, off, none⟩) l.length cap) := (hb2.cell (p := ⟨w.heap.size, 1, none⟩) (by simp)).trans (by simp)
  have hbw := HB1.out.trans (hb2.mono HB1.out.size)
  have HBW := Lib.hid hbw
  have HP0 := Lib.hid p0
  have HP1 := Lib.hid p1
  have hsz2 : w.heap.size < w2.heap.size := by have := hb2.size; simp at this; omega
  clear hbw hb2 p0 p1
  go_loopw [9, 45] (fun v i wr => Below w.heap.size w wr ∧ w.heap.size < wr.heap.size ∧ ((i = .int .i64 0 ∧ v = .slice none 0 0 ∧ wr.cell? ⟨w.heap.size, 0, none⟩ = some (.int .u64 key) ∧ wr.cell? ⟨w.heap.size, 1, none⟩ = some (.slice (some ⟨b, off, none⟩) l.length cap)) ∨ (i = .int .i64 1 ∧ ∃ cb cc, v = .slice (some ⟨cb, 0, none⟩) 2 cc ∧ ValsAt wr wr.heap.size cb [[⟨1, key, ⟨#[]⟩⟩], l]))) (fun _ i _ => 1 - (intOf i).toNat)
  case atStart => exact ⟨HBW.out, hsz2, .inl ⟨rfl, rfl, HP0.out, HP1.out⟩⟩
  case round =>
    obtain ⟨hbr, hsr, ⟨rfl, rfl, q0, q1⟩ | ⟨rfl, cb, cc, rfl, hV⟩⟩ := hrel
    · have HBR := Lib.hid hbr
      clear hbr
      have hW : Below wr.heap.size wr (((wr.alloc (.cells #[.int .u64 key, .slice (some ⟨b, off, none⟩) l.length cap] 90)).alloc (.cells (itemCs 1 key ⟨#[]⟩) 58)).alloc (.cells #[.slice (some ⟨wr.heap.size + 1, 0, none⟩) 1 1, .slice (some ⟨b, off, none⟩) l.length cap] 22)) := (((Below.refl _ wr).alloc (Nat.le_refl _) _).alloc (by simp) _).alloc (by simp; omega) _
      have HW := Lib.hid hW
      clear hW
      go_wp2_with fail
      go_region_held3 (fun W => W.cell? ⟨wr.heap.size, 0, none⟩ = some (.int .u64 key) ∧ W.cell? ⟨wr.heap.size, 1, none⟩ = some (.slice (some ⟨b, off, none⟩) l.length cap))
        (first | (((try refine ⟨?_, ?_⟩) <;> go_simp); done) | (exact ⟨(hb3.cell (p := ⟨wr.heap.size, 0, none⟩) (by simp <;> omega)).trans (And.left (by assumption)), (hb3.cell (p := ⟨wr.heap.size, 1, none⟩) (by simp <;> omega)).trans (And.right (by assumption))⟩))
        (first | (go_at_call 34; refine (uint_any _ _).mono ?_; rintro e w3 ⟨rfl, rfl⟩) | (refine step_two rfl (.tmp 49) (.tmp 55) rfl (some ⟨wr.heap.size + 1, 0, none⟩) (some ⟨b, off, none⟩) 1 1 l.length cap (wr.heap.size + 2) rfl (by exact heap_new5 wr _ _ _) rfl ?_; intro g gc w4 hg4 e0 e1 hb3))
      have hb4 := HW.out.drew.trans (hb3.mono HW.out.drew.size)
      have hit : w4.heap[wr.heap.size + 1]? = some (.cells (itemCs 1 key ⟨#[]⟩) 58 (0, 0)) := (hb3.block (wr.heap.size + 1) (by simp)).trans (heap_new6 wr _ _ _)
      have hs4 := hb4.size
      have hlt4 : wr.heap.size + 1 < w4.heap.size := lt_of_heap hit
      have hV4 : ValsAt w4 w4.heap.size g [[⟨1, key, ⟨#[]⟩⟩], l] := ⟨hg4, fun i hi => by
        have hi2 : i = 0 ∨ i = 1 := by simp at hi; omega
        rcases hi2 with rfl | rfl
        · exact ⟨_, 0, 1, e0, itemsAt_one hlt4 hit hk0 (Nat.zero_le _)⟩
        · exact ⟨b, off, cap, e1, itemsAt_mono ((HI.out.below HBR.out).below (hb4.mono (Nat.le_of_lt hsr))) (by omega)⟩, by
        intro x hx
        simp only [List.mem_cons, List.not_mem_nil, or_false] at hx
        rcases hx with rfl | rfl
        · simp
        · exact HNE.out⟩
      have HV4 := Lib.hid hV4
      have HB4 := Lib.hid hb4
      clear hV4 hit hb3 hb4 e0 e1
      go_split_ands
      go_wp2_with fail
      go_roundw
      case rel => exact ⟨HBR.out.trans (HB4.out.mono (Nat.le_of_lt hsr)), by omega, .inr ⟨rfl, g, gc, rfl, HV4.out⟩⟩
      case measure => simp [intOf]
    · have HBR := Lib.hid hbr
      have hC := container_any 6 1 cb cc [[⟨1, key, ⟨#[]⟩⟩], l] wr hV (HT.out.later hbr) (.inr rfl) (by omega) (by simp [total]) (by simp [total]; omega) (by simp) (by
        intro y hy x hx
        simp only [List.mem_cons, List.not_mem_nil, or_false] at hy
        rcases hy with rfl | rfl
        · simp only [List.mem_cons, List.not_mem_nil, or_false] at hx
          subst hx
          exact ⟨hk0, Nat.zero_le _⟩
        · exact HI.out.ok x hx) (⟨1, key, ⟨#[]⟩⟩ :: l) (by simp) HZ2.out
      have HC := Lib.hid hC
      clear hbr hC hV
      go_wp2_with (go_at_call 51; refine HC.out.mono ?_; rintro e w3 ⟨v3, rfl, hI3, hs3, hb3⟩)
      go_ret2
      exact ⟨v3, rfl, hI3, HBR.out.trans (hb3.mono HBR.out.size)⟩
end Go.Proofs.YtepinmeidjlmmaaDoor

namespace Go.Proofs.YtepinmeidjlmmaaDoor
open Go.RowKit

def itA : List It := [⟨1, 24, ⟨#[]⟩⟩]
def itT : List It := [⟨4, 0, ⟨#[97]⟩⟩]
def itM : List It := [⟨6, 1, ⟨#[]⟩⟩, ⟨1, 1, ⟨#[]⟩⟩, ⟨4, 0, ⟨#[97]⟩⟩]
theorem validA : validE itA = 0 := by decide +kernel
theorem encA : encAll itA = [24, 24] := by decide +kernel
theorem validT : validE itT = 0 := by decide +kernel
theorem validM : validE itM = 0 := by decide +kernel
theorem encM : encAll itM = [161, 1, 97, 97] := by decide +kernel

theorem encode_fix (l : List It) (bs : List Int) (n : Nat) (v : Value) (w : World) (hI : ItemsAt w w.heap.size v l) (ht : Tabs w) (hz : validE l = 0) (hb : encAll l = bs) (hn : bs.length = n) (hn0 : 0 < n) :
    Calls Tryd.prog 16 #[v] w fun e w' => ∃ g cap, e = .returned (.tuple #[.slice (some ⟨g, 0, none⟩) n cap, .int .i64 0]) ∧ g < w'.heap.size ∧ (∀ i, i < n → w'.cell? ⟨g, i, none⟩ = some (.int .u8 (bs.getD i 0))) ∧ Below w.heap.size w w' := by
  refine (encode_good l v w hI ht hz).mono ?_
  rintro e w' ⟨v', rfl, ho, hbl⟩
  rw [hb, hn] at ho
  obtain ⟨g, cap, rfl, hg, hlt⟩ := own_slice ho hn0
  exact ⟨g, cap, rfl, hlt, own_cells ho, hbl⟩

theorem hW4 (w : World) (o1 o2 o3 : Obj) : (((w.alloc o1).alloc o2).alloc o3).cell? ⟨w.heap.size, 0, none⟩ = (w.alloc o1).cell? ⟨w.heap.size, 0, none⟩ :=
  (((((Below.refl _ (w.alloc o1)).alloc (Nat.le_refl _) o2).alloc (by simp) o3)).cell (p := ⟨w.heap.size, 0, none⟩) (by simp))

set_option maxRecDepth 100000 in
set_option maxHeartbeats 1000000 in
theorem awake_any (w : World) (ht : Tabs w) : Calls Tryd.prog 15 #[] w fun e w' => e = .returned (.bool true) ∧ Below w.heap.size w w' := by
  have hB1 : Below w.heap.size w (w.alloc (.cells #[.int .i64 1, .int .u64 24, .string ⟨#[]⟩] 58)) := (Below.refl _ w).alloc (Nat.le_refl _) _
  have C1 := encode_fix itA [24, 24] 2 (.slice (some ⟨w.heap.size, 0, none⟩) 1 1) _ (itemsAt_one (by simp) (heap_new w (.cells (itemCs 1 24 ⟨#[]⟩) 58)) (by omega) (Nat.zero_le _)) (ht.later hB1) validA encA rfl (by omega)
  have HC1 := Lib.hid C1
  have HT := Lib.hid ht
  have HB1 := Lib.hid hB1
  clear C1 ht hB1
  go_enter Tryd.func15, Tryd.ntmps15
  go_wp2_with (go_at_call 16; refine HC1.out.mono ?_; rintro e w1 ⟨g1, cap1, rfl, hg1, hc1, hb1⟩)
  refine (text_any _ _).mono ?_
  rintro e w2 ⟨rfl, rfl⟩
  have hb1' := HB1.out.trans (hb1.mono HB1.out.size)
  have hW3 : Below w1.heap.size w1 (((w1.alloc (.cells #[.int .u64 1] 45)).alloc (.cells (itemCs 4 0 ⟨#[97]⟩) 58)).alloc (.cells #[.slice (some ⟨w1.heap.size + 1, 0, none⟩) 1 1] 22)) := (((Below.refl _ w1).alloc (Nat.le_refl _) _).alloc (by simp) _).alloc (by simp; omega) _
  have hb3 := hb1'.trans (hW3.mono hb1'.size)
  have C3 := map1 w1.heap.size (w1.heap.size + 2) 1 (w1.heap.size + 1) 0 1 itT (((w1.alloc (.cells #[.int .u64 1] 45)).alloc (.cells (itemCs 4 0 ⟨#[97]⟩) 58)).alloc (.cells #[.slice (some ⟨w1.heap.size + 1, 0, none⟩) 1 1] 22)) (by simp; omega) (by simp)
    ((hW4 w1 _ _ _).trans (by simp)) (cell_of_block (heap_new5 w1 _ _ _) rfl) (itemsAt_one (by simp) (heap_new6 w1 _ _ _) (by omega) (by unfold maxLen; decide)) (HT.out.later hb3) (by omega) (by decide) validT validM
  have HC3 := Lib.hid C3
  have HB3 := Lib.hid hb3
  have HC1c := Lib.hid (fun i hi => (hW3.cell (p := ⟨g1, i, none⟩) hg1).trans (hc1 i hi))
  clear C3 hb3 hW3 hb1' hb1 hc1
  go_wp2_with fail
  refine HC3.out.mono ?_
  rintro e w4 ⟨v4, rfl, hI4, hb4⟩
  have hb4' := HB3.out.trans (hb4.mono HB3.out.size)
  have C4 := encode_fix itM [161, 1, 97, 97] 4 v4 w4 hI4 (HT.out.later hb4') validM encM rfl (by omega)
  have HC4 := Lib.hid C4
  have HB4 := Lib.hid hb4'
  have hg14 : g1 < w4.heap.size := by have := hb4.size; simp at this; omega
  have HC1d := Lib.hid (fun i hi => (hb4.cell (p := ⟨g1, i, none⟩) (by simp; omega)).trans (HC1c.out i hi))
  clear C4 hI4 hb4 hb4' HC3 HC1c HC1 HB3 HB1
  go_wp2_with fail
  refine HC4.out.mono ?_
  rintro e w5 ⟨g2, cap2, rfl, hg2, hc2, hb5⟩
  have hb5' := HB4.out.trans (hb5.mono HB4.out.size)
  have hW6 : Below w5.heap.size w5 (w5.alloc (.cells #[.int .u8 24, .int .u8 23] 5)) := (Below.refl _ w5).alloc (Nat.le_refl _) _
  have hb6' := hb5'.trans (hW6.mono hb5'.size)
  have C6 := decode24_bad w5.heap.size 0 2 2 23 (w5.alloc (.cells #[.int .u8 24, .int .u8 23] 5)) (by simp) (by omega) (by omega) (by omega) (by simp) (by simp) (by omega) (by omega)
  have HC6 := Lib.hid C6
  have HB6 := Lib.hid hb6'
  have hg16 : g1 < (w5.alloc (.cells #[.int .u8 24, .int .u8 23] 5)).heap.size := by have := hb5.size; simp; omega
  have HC1e := Lib.hid (fun i hi => (hW6.cell (p := ⟨g1, i, none⟩) (by have := hb5.size; show g1 < _; omega)).trans ((hb5.cell (p := ⟨g1, i, none⟩) hg14).trans (HC1d.out i hi)))
  have HC2e := Lib.hid (fun i hi => (hW6.cell (p := ⟨g2, i, none⟩) hg2).trans (hc2 i hi))
  have hg26 : g2 < (w5.alloc (.cells #[.int .u8 24, .int .u8 23] 5)).heap.size := by simp; omega
  clear C6 hb6' hW6 hb5' hb5 hc2 HC4 HC1d HB4
  go_wp2_with fail
  refine HC6.out.mono ?_
  rintro e w7 ⟨rfl, hb7⟩
  have k1 : (convert 25 9 (.slice (some ⟨g1, 0, none⟩) 2 cap1)).run Tryd.prog w7 = .ok (.string ⟨#[24, 24]⟩) w7 :=
    run_convert_bytes_arg w7 25 5 Tryd.underlying25 Tryd.underlying5 g1 0 2 cap1 [24, 24] rfl (fun i hi => by rw [Nat.zero_add]; exact (hb7.cell (p := ⟨g1, i, none⟩) hg16).trans (HC1e.out i hi)) 9 Tryd.underlying9
  have k2 : (convert 25 9 (.slice (some ⟨g2, 0, none⟩) 4 cap2)).run Tryd.prog w7 = .ok (.string ⟨#[161, 1, 97, 97]⟩) w7 :=
    run_convert_bytes_arg w7 25 5 Tryd.underlying25 Tryd.underlying5 g2 0 4 cap2 [161, 1, 97, 97] rfl (fun i hi => by rw [Nat.zero_add]; exact (hb7.cell (p := ⟨g2, i, none⟩) hg26).trans (HC2e.out i hi)) 9 Tryd.underlying9
  have HB7 := Lib.hid (HB6.out.trans (hb7.mono HB6.out.size))
  clear hb7 HC1e HC2e HC6 HB6 hg16 hg26
  go_wp2
  go_ret
  exact ⟨rfl, HB7.out⟩

set_option maxRecDepth 100000 in
set_option maxHeartbeats 1000000 in
/-- two slices that read as the same items -/
theorem same_any (v1 v2 : Value) (B1 B2 : Nat) (l : List It) (w : World) (h1 : ItemsAt w B1 v1 l) (h2 : ItemsAt w B2 v2 l) :
    Calls Tryd.prog 24 #[v1, v2] w fun e w' => e = .returned (.bool true) ∧ ∃ m, w.drewN m = w' := by
  have hlen := h1.len
  rcases h1.form with ⟨rfl, rfl⟩ | ⟨b, off, cap, rfl, hb, hc⟩
  · rcases h2.form with ⟨rfl, _⟩ | ⟨b2, off2, cap2, rfl, hb2, hc2⟩
    · clear h1 h2
      go_enter Tryd.func24, Tryd.ntmps24
      go_wp2_with fail
      refine wp_loop_rounds 1 ?_
      rw [rounds_succ]
      go_wp2
      go_ret
      exact ⟨rfl, 0, rfl⟩
    · clear h1 h2 hc2
      go_enter Tryd.func24, Tryd.ntmps24
      go_wp2_with fail
      refine wp_loop_rounds 1 ?_
      rw [rounds_succ]
      go_wp2
      go_ret
      exact ⟨rfl, 0, rfl⟩
  · rcases h2.form with ⟨rfl, rfl⟩ | ⟨b2, off2, cap2, rfl, hb2, hc2⟩
    · clear h1 h2 hc
      go_enter Tryd.func24, Tryd.ntmps24
      go_wp2_with fail
      refine wp_loop_rounds 1 ?_
      rw [rounds_succ]
      go_wp2
      go_ret
      exact ⟨rfl, 0, rfl⟩
    · have H1 := Lib.hid hc
      have H2 := Lib.hid hc2
      clear h1 h2 hc hc2
      go_enter Tryd.func24, Tryd.ntmps24
      go_wp2_with fail
      go_loopw [5] (fun i wr => ∃ j : Nat, j ≤ l.length ∧ i = .int .i64 j ∧ ∃ m, w.drewN m = wr) (fun i _ => l.length - (intOf i).toNat)
      case atStart => exact ⟨0, by omega, rfl, 0, rfl⟩
      case round =>
        obtain ⟨j, hj, rfl, m, rfl⟩ := hrel
        by_cases hlt : j < l.length
        · obtain ⟨q0, q1, q2⟩ := H1.out j hlt
          obtain ⟨r0, r1, r2⟩ := H2.out j hlt
          generalize l[j] = x at q0 q1 q2 r0 r1 r2
          go_wp2_with fail
          go_quiet (fail)
          go_wp2_with fail
          go_roundw
          case rel => exact ⟨j + 1, by omega, by go_num, m + nq, rfl⟩
          case measure => simp [intOf]; omega
        · go_wp2
          go_ret
          exact ⟨rfl, m, rfl⟩
end Go.Proofs.YtepinmeidjlmmaaDoor

namespace Go.Proofs.YtepinmeidjlmmaaDoor
open Go.RowKit

/-- the reference's parts: new bytes -/
def RowPost (base : Nat) (w : World) (l : List Int) (e : Ending) (w' : World) : Prop := ∃ v', e = .returned v' ∧ w'.ownsRow base 5 1 v' l.length (bv l) ∧ Below base w w'

set_option maxRecDepth 100000 in
set_option maxHeartbeats 400000 in
theorem within_any (n lo hi : Int) (w : World) : Calls Tryd.prog 80 #[.int .i64 n, .int .i64 lo, .int .i64 hi] w fun e w' => e = .returned (.bool (decide (lo ≤ n) && decide (n ≤ hi))) ∧ w = w' := by
  by_cases h1 : lo ≤ n
  · by_cases h2 : n ≤ hi
    · rw [decide_eq_true h1, decide_eq_true h2]
      go_enter Tryd.func80, Tryd.ntmps80
      go_wp2
      go_ret
      exact ⟨rfl, rfl⟩
    · rw [decide_eq_true h1, decide_eq_false h2]
      go_enter Tryd.func80, Tryd.ntmps80
      go_wp2
      go_ret
      exact ⟨rfl, rfl⟩
  · rw [decide_eq_false h1]
    go_enter Tryd.func80, Tryd.ntmps80
    go_wp2
    go_ret
    exact ⟨rfl, rfl⟩

def isKeyB (k : Int) : Bool := k == 1 || k == 2 || k == 4
set_option maxRecDepth 100000 in
set_option maxHeartbeats 400000 in
theorem isKey_any (k : Int) (w : World) : Calls Tryd.prog 68 #[.int .i64 k] w fun e w' => e = .returned (.bool (isKeyB k)) ∧ w = w' := by
  by_cases h1 : k = 1
  · subst h1
    go_enter Tryd.func68, Tryd.ntmps68
    go_wp2
    go_ret
    exact ⟨rfl, rfl⟩
  by_cases h2 : k = 2
  · subst h2
    go_enter Tryd.func68, Tryd.ntmps68
    go_wp2
    go_ret
    exact ⟨rfl, rfl⟩
  by_cases h4 : k = 4
  · subst h4
    go_enter Tryd.func68, Tryd.ntmps68
    go_wp2
    go_ret
    exact ⟨rfl, rfl⟩
  go_enter Tryd.func68, Tryd.ntmps68
  go_wp2
  go_ret
  exact ⟨rfl, rfl⟩

def headR (k n : Int) (d : ByteArray) : List Int := if k = 7 then [244 + n] else if k = 8 then [246] else encHead (k - 1) (argN k n d)
theorem row_lit (w : World) (l : List Int) (cs : Array Value) (n base : Nat) (hb : base ≤ w.heap.size) (hn : l.length = n) (hm : n ≤ 1000) (hcs : cs.toList = bv l) : (w.alloc (.cells cs 5)).ownsRow base 5 1 (.slice (some ⟨w.heap.size, 0, none⟩) n n) l.length (bv l) := by
  subst hn
  have h := World.ownsRow_lit (e := 5) (size := 1) w cs l.length hb (by unfold maxLen; omega) (by rw [← Array.length_toList, hcs, bv_len]; omega)
  rw [hcs] at h
  exact h

set_option maxRecDepth 100000 in
set_option maxHeartbeats 400000 in
theorem words1_any (b : Nat) (n : Int) (w : World) (hc : w.cell? ⟨b, 0, none⟩ = some (.int .u64 n)) (hb : b < w.heap.size) (_ : 0 ≤ n) :
    Calls Tryd.prog 77 #[.slice (some ⟨b, 0, none⟩) 1 1] w (RowPost w.heap.size w (beBytes n 8 8)) := by
  have HC := Lib.hid hc
  clear hc
  go_enter Tryd.func77, Tryd.ntmps77
  go_wp2_with fail
  refine wp_loop_rounds 2 ?_
  rw [rounds_succ]
  go_wp2_with fail
  go_loopw [3, 5] (fun v k wr => ∃ j : Nat, j ≤ 8 ∧ k = .int .i64 (7 - j) ∧ wr.ownsRow w.heap.size 5 1 v j (bv (beBytes n 8 j)) ∧ Below w.heap.size w wr) (fun _ k _ => (intOf k + 1).toNat)
  case atStart => exact ⟨0, by omega, by simp, World.ownsRow_nil _ _ _ _, Below.refl _ _⟩
  case round =>
    obtain ⟨j, hj, rfl, hok, hbk⟩ := hrel
    by_cases hlt : j < 8
    · have hcr := (hbk.cell (p := ⟨b, 0, none⟩) hb).trans HC.out
      go_wp2_with (at_builtin; (refine app_byte rfl _ _ rfl w.heap.size _ j _ _ hok rfl _ rfl rfl (by omega) hbk.size ?_); intro v2 w2 ho2 hb2 hk2)
      go_roundw
      case rel => exact ⟨j + 1, by omega, by go_num, by rw [beBytes_succ, bv_app]; exact ho2, hbk.trans hb2⟩
      case measure => simp [intOf]; omega
    · obtain rfl : j = 8 := by omega
      go_wp2_with fail
      rw [rounds_succ]
      go_wp2
      go_ret
      exact ⟨_, rfl, hok, hbk⟩

theorem row_end (w : World) (o1 : Obj) (l : List Int) (cs : Array Value) (n : Nat) (hn : l.length = n) (hm : n ≤ 1000) (hcs : cs.toList = bv l) : RowPost w.heap.size w l (.returned (.slice (some ⟨w.heap.size + 1, 0, none⟩) n n)) ((w.alloc o1).alloc (.cells cs 5)) := by
  have h := row_lit (w.alloc o1) l cs n w.heap.size (by simp) hn hm hcs
  rw [show (w.alloc o1).heap.size = w.heap.size + 1 from by simp] at h
  exact ⟨_, rfl, h, ((Below.refl _ w).alloc (Nat.le_refl _) _).alloc (by simp) _⟩

theorem row_end_d (w : World) (o1 : Obj) (l : List Int) (cs : Array Value) (n : Nat) (hn : l.length = n) (hm : n ≤ 1000) (hcs : cs.toList = bv l) : RowPost w.heap.size w l (.returned (.slice (some ⟨w.heap.size + 1, 0, none⟩) n n)) ((w.alloc o1).alloc (.cells cs 5)).drew := by
  obtain ⟨v', h1, h2, h3⟩ := row_end w o1 l cs n hn hm hcs
  exact ⟨v', h1, h2, h3.drew⟩

set_option maxRecDepth 100000 in
set_option maxHeartbeats 400000 in
theorem headR_1_s (n : Int) (d : ByteArray) (w : World) (hn0 : 0 ≤ n) (h1 : n < 24) : Calls Tryd.prog 54 #[itemV 1 n d] w (RowPost w.heap.size w (encHead 0 n)) := by
  rw [encHead0 h1]
  unfold itemV
  go_enter Tryd.func54, Tryd.ntmps54
  go_wp2
  go_ret
  refine row_end w _ _ _ _ rfl (by decide) ?_
  simp [bv] <;> omega

set_option maxRecDepth 100000 in
set_option maxHeartbeats 400000 in
theorem headR_1_1 (n : Int) (d : ByteArray) (w : World) (_ : 0 ≤ n) (h1 : 24 ≤ n) (h2 : n < 256) : Calls Tryd.prog 54 #[itemV 1 n d] w (RowPost w.heap.size w (encHead 0 n)) := by
  rw [encHead1 h1 h2]
  unfold itemV
  go_enter Tryd.func54, Tryd.ntmps54
  go_wp2
  go_ret
  refine row_end w _ _ _ _ rfl (by decide) ?_
  simp [bv, beBytes, beByte, List.range_succ] <;> omega

set_option maxRecDepth 100000 in
set_option maxHeartbeats 400000 in
theorem headR_1_2 (n : Int) (d : ByteArray) (w : World) (_ : 0 ≤ n) (h1 : 256 ≤ n) (h2 : n < 65536) : Calls Tryd.prog 54 #[itemV 1 n d] w (RowPost w.heap.size w (encHead 0 n)) := by
  rw [encHead2 h1 h2]
  unfold itemV
  go_enter Tryd.func54, Tryd.ntmps54
  go_wp2
  go_ret
  refine row_end w _ _ _ _ rfl (by decide) ?_
  simp [bv, beBytes, beByte, List.range_succ] <;> omega

set_option maxRecDepth 100000 in
set_option maxHeartbeats 400000 in
theorem headR_1_4 (n : Int) (d : ByteArray) (w : World) (_ : 0 ≤ n) (h1 : 65536 ≤ n) (h2 : n < 4294967296) : Calls Tryd.prog 54 #[itemV 1 n d] w (RowPost w.heap.size w (encHead 0 n)) := by
  rw [encHead4 h1 h2]
  unfold itemV
  go_enter Tryd.func54, Tryd.ntmps54
  go_wp2
  go_ret
  refine row_end w _ _ _ _ rfl (by decide) ?_
  simp [bv, beBytes, beByte, List.range_succ] <;> omega

set_option maxRecDepth 100000 in
set_option maxHeartbeats 400000 in
theorem headR_2_s (n : Int) (d : ByteArray) (w : World) (hn0 : 0 ≤ n) (h1 : n < 24) : Calls Tryd.prog 54 #[itemV 2 n d] w (RowPost w.heap.size w (encHead 1 n)) := by
  rw [encHead0 h1]
  unfold itemV
  go_enter Tryd.func54, Tryd.ntmps54
  go_wp2
  go_ret
  refine row_end w _ _ _ _ rfl (by decide) ?_
  simp [bv] <;> omega

set_option maxRecDepth 100000 in
set_option maxHeartbeats 400000 in
theorem headR_2_1 (n : Int) (d : ByteArray) (w : World) (_ : 0 ≤ n) (h1 : 24 ≤ n) (h2 : n < 256) : Calls Tryd.prog 54 #[itemV 2 n d] w (RowPost w.heap.size w (encHead 1 n)) := by
  rw [encHead1 h1 h2]
  unfold itemV
  go_enter Tryd.func54, Tryd.ntmps54
  go_wp2
  go_ret
  refine row_end w _ _ _ _ rfl (by decide) ?_
  simp [bv, beBytes, beByte, List.range_succ] <;> omega

set_option maxRecDepth 100000 in
set_option maxHeartbeats 400000 in
theorem headR_2_2 (n : Int) (d : ByteArray) (w : World) (_ : 0 ≤ n) (h1 : 256 ≤ n) (h2 : n < 65536) : Calls Tryd.prog 54 #[itemV 2 n d] w (RowPost w.heap.size w (encHead 1 n)) := by
  rw [encHead2 h1 h2]
  unfold itemV
  go_enter Tryd.func54, Tryd.ntmps54
  go_wp2
  go_ret
  refine row_end w _ _ _ _ rfl (by decide) ?_
  simp [bv, beBytes, beByte, List.range_succ] <;> omega

set_option maxRecDepth 100000 in
set_option maxHeartbeats 400000 in
theorem headR_2_4 (n : Int) (d : ByteArray) (w : World) (_ : 0 ≤ n) (h1 : 65536 ≤ n) (h2 : n < 4294967296) : Calls Tryd.prog 54 #[itemV 2 n d] w (RowPost w.heap.size w (encHead 1 n)) := by
  rw [encHead4 h1 h2]
  unfold itemV
  go_enter Tryd.func54, Tryd.ntmps54
  go_wp2
  go_ret
  refine row_end w _ _ _ _ rfl (by decide) ?_
  simp [bv, beBytes, beByte, List.range_succ] <;> omega

set_option maxRecDepth 100000 in
set_option maxHeartbeats 400000 in
theorem headR_5_s (n : Int) (d : ByteArray) (w : World) (hn0 : 0 ≤ n) (h1 : n < 24) : Calls Tryd.prog 54 #[itemV 5 n d] w (RowPost w.heap.size w (encHead 4 n)) := by
  rw [encHead0 h1]
  unfold itemV
  go_enter Tryd.func54, Tryd.ntmps54
  go_wp2
  go_ret
  refine row_end w _ _ _ _ rfl (by decide) ?_
  simp [bv] <;> omega

set_option maxRecDepth 100000 in
set_option maxHeartbeats 400000 in
theorem headR_5_1 (n : Int) (d : ByteArray) (w : World) (_ : 0 ≤ n) (h1 : 24 ≤ n) (h2 : n < 256) : Calls Tryd.prog 54 #[itemV 5 n d] w (RowPost w.heap.size w (encHead 4 n)) := by
  rw [encHead1 h1 h2]
  unfold itemV
  go_enter Tryd.func54, Tryd.ntmps54
  go_wp2
  go_ret
  refine row_end w _ _ _ _ rfl (by decide) ?_
  simp [bv, beBytes, beByte, List.range_succ] <;> omega

set_option maxRecDepth 100000 in
set_option maxHeartbeats 400000 in
theorem headR_5_2 (n : Int) (d : ByteArray) (w : World) (_ : 0 ≤ n) (h1 : 256 ≤ n) (h2 : n < 65536) : Calls Tryd.prog 54 #[itemV 5 n d] w (RowPost w.heap.size w (encHead 4 n)) := by
  rw [encHead2 h1 h2]
  unfold itemV
  go_enter Tryd.func54, Tryd.ntmps54
  go_wp2
  go_ret
  refine row_end w _ _ _ _ rfl (by decide) ?_
  simp [bv, beBytes, beByte, List.range_succ] <;> omega

set_option maxRecDepth 100000 in
set_option maxHeartbeats 400000 in
theorem headR_5_4 (n : Int) (d : ByteArray) (w : World) (_ : 0 ≤ n) (h1 : 65536 ≤ n) (h2 : n < 4294967296) : Calls Tryd.prog 54 #[itemV 5 n d] w (RowPost w.heap.size w (encHead 4 n)) := by
  rw [encHead4 h1 h2]
  unfold itemV
  go_enter Tryd.func54, Tryd.ntmps54
  go_wp2
  go_ret
  refine row_end w _ _ _ _ rfl (by decide) ?_
  simp [bv, beBytes, beByte, List.range_succ] <;> omega

set_option maxRecDepth 100000 in
set_option maxHeartbeats 400000 in
theorem headR_6_s (n : Int) (d : ByteArray) (w : World) (hn0 : 0 ≤ n) (h1 : n < 24) : Calls Tryd.prog 54 #[itemV 6 n d] w (RowPost w.heap.size w (encHead 5 n)) := by
  rw [encHead0 h1]
  unfold itemV
  go_enter Tryd.func54, Tryd.ntmps54
  go_wp2
  go_ret
  refine row_end w _ _ _ _ rfl (by decide) ?_
  simp [bv] <;> omega

set_option maxRecDepth 100000 in
set_option maxHeartbeats 400000 in
theorem headR_6_1 (n : Int) (d : ByteArray) (w : World) (_ : 0 ≤ n) (h1 : 24 ≤ n) (h2 : n < 256) : Calls Tryd.prog 54 #[itemV 6 n d] w (RowPost w.heap.size w (encHead 5 n)) := by
  rw [encHead1 h1 h2]
  unfold itemV
  go_enter Tryd.func54, Tryd.ntmps54
  go_wp2
  go_ret
  refine row_end w _ _ _ _ rfl (by decide) ?_
  simp [bv, beBytes, beByte, List.range_succ] <;> omega

set_option maxRecDepth 100000 in
set_option maxHeartbeats 400000 in
theorem headR_6_2 (n : Int) (d : ByteArray) (w : World) (_ : 0 ≤ n) (h1 : 256 ≤ n) (h2 : n < 65536) : Calls Tryd.prog 54 #[itemV 6 n d] w (RowPost w.heap.size w (encHead 5 n)) := by
  rw [encHead2 h1 h2]
  unfold itemV
  go_enter Tryd.func54, Tryd.ntmps54
  go_wp2
  go_ret
  refine row_end w _ _ _ _ rfl (by decide) ?_
  simp [bv, beBytes, beByte, List.range_succ] <;> omega

set_option maxRecDepth 100000 in
set_option maxHeartbeats 400000 in
theorem headR_6_4 (n : Int) (d : ByteArray) (w : World) (_ : 0 ≤ n) (h1 : 65536 ≤ n) (h2 : n < 4294967296) : Calls Tryd.prog 54 #[itemV 6 n d] w (RowPost w.heap.size w (encHead 5 n)) := by
  rw [encHead4 h1 h2]
  unfold itemV
  go_enter Tryd.func54, Tryd.ntmps54
  go_wp2
  go_ret
  refine row_end w _ _ _ _ rfl (by decide) ?_
  simp [bv, beBytes, beByte, List.range_succ] <;> omega

set_option maxRecDepth 100000 in
set_option maxHeartbeats 400000 in
theorem headR_3_s (n : Int) (d : ByteArray) (w : World) (hd : d.size ≤ 1100) (h1 : (d.size : Int) < 24) : Calls Tryd.prog 54 #[itemV 3 n d] w (RowPost w.heap.size w (encHead 2 (d.size : Int))) := by
  rw [encHead0 h1]
  have hd1 : (d.size : Int) ≤ 1100 := by omega
  have hd0 : (0 : Int) ≤ (d.size : Int) := by omega
  unfold itemV
  go_enter Tryd.func54, Tryd.ntmps54
  go_wp2_with fail
  go_region
  all_goals generalize (d.size : Int) = N at *
  all_goals go_wp2
  all_goals go_ret
  all_goals refine row_end_d w _ _ _ _ rfl (by simp) ?_
  all_goals simp [bv] <;> omega

set_option maxRecDepth 100000 in
set_option maxHeartbeats 400000 in
theorem headR_3_1 (n : Int) (d : ByteArray) (w : World) (hd : d.size ≤ 1100) (h1 : 24 ≤ (d.size : Int)) (h2 : (d.size : Int) < 256) : Calls Tryd.prog 54 #[itemV 3 n d] w (RowPost w.heap.size w (encHead 2 (d.size : Int))) := by
  rw [encHead1 h1 h2]
  have hd1 : (d.size : Int) ≤ 1100 := by omega
  have hd0 : (0 : Int) ≤ (d.size : Int) := by omega
  unfold itemV
  go_enter Tryd.func54, Tryd.ntmps54
  go_wp2_with fail
  go_region
  all_goals generalize (d.size : Int) = N at *
  all_goals go_wp2
  all_goals go_ret
  all_goals refine row_end_d w _ _ _ _ rfl (by simp) ?_
  all_goals simp [bv, beBytes, beByte, List.range_succ] <;> omega

set_option maxRecDepth 100000 in
set_option maxHeartbeats 400000 in
theorem headR_3_2 (n : Int) (d : ByteArray) (w : World) (hd : d.size ≤ 1100) (h1 : 256 ≤ (d.size : Int)) (h2 : (d.size : Int) < 65536) : Calls Tryd.prog 54 #[itemV 3 n d] w (RowPost w.heap.size w (encHead 2 (d.size : Int))) := by
  rw [encHead2 h1 h2]
  have hd1 : (d.size : Int) ≤ 1100 := by omega
  have hd0 : (0 : Int) ≤ (d.size : Int) := by omega
  unfold itemV
  go_enter Tryd.func54, Tryd.ntmps54
  go_wp2_with fail
  go_region
  all_goals generalize (d.size : Int) = N at *
  all_goals go_wp2
  all_goals go_ret
  all_goals refine row_end_d w _ _ _ _ rfl (by simp) ?_
  all_goals simp [bv, beBytes, beByte, List.range_succ] <;> omega

set_option maxRecDepth 100000 in
set_option maxHeartbeats 400000 in
theorem headR_4_s (n : Int) (d : ByteArray) (w : World) (hd : d.size ≤ 1100) (h1 : (d.size : Int) < 24) : Calls Tryd.prog 54 #[itemV 4 n d] w (RowPost w.heap.size w (encHead 3 (d.size : Int))) := by
  rw [encHead0 h1]
  have hd1 : (d.size : Int) ≤ 1100 := by omega
  have hd0 : (0 : Int) ≤ (d.size : Int) := by omega
  unfold itemV
  go_enter Tryd.func54, Tryd.ntmps54
  go_wp2_with fail
  go_region
  all_goals generalize (d.size : Int) = N at *
  all_goals go_wp2
  all_goals go_ret
  all_goals refine row_end_d w _ _ _ _ rfl (by simp) ?_
  all_goals simp [bv] <;> omega

set_option maxRecDepth 100000 in
set_option maxHeartbeats 400000 in
theorem headR_4_1 (n : Int) (d : ByteArray) (w : World) (hd : d.size ≤ 1100) (h1 : 24 ≤ (d.size : Int)) (h2 : (d.size : Int) < 256) : Calls Tryd.prog 54 #[itemV 4 n d] w (RowPost w.heap.size w (encHead 3 (d.size : Int))) := by
  rw [encHead1 h1 h2]
  have hd1 : (d.size : Int) ≤ 1100 := by omega
  have hd0 : (0 : Int) ≤ (d.size : Int) := by omega
  unfold itemV
  go_enter Tryd.func54, Tryd.ntmps54
  go_wp2_with fail
  go_region
  all_goals generalize (d.size : Int) = N at *
  all_goals go_wp2
  all_goals go_ret
  all_goals refine row_end_d w _ _ _ _ rfl (by simp) ?_
  all_goals simp [bv, beBytes, beByte, List.range_succ] <;> omega

set_option maxRecDepth 100000 in
set_option maxHeartbeats 400000 in
theorem headR_4_2 (n : Int) (d : ByteArray) (w : World) (hd : d.size ≤ 1100) (h1 : 256 ≤ (d.size : Int)) (h2 : (d.size : Int) < 65536) : Calls Tryd.prog 54 #[itemV 4 n d] w (RowPost w.heap.size w (encHead 3 (d.size : Int))) := by
  rw [encHead2 h1 h2]
  have hd1 : (d.size : Int) ≤ 1100 := by omega
  have hd0 : (0 : Int) ≤ (d.size : Int) := by omega
  unfold itemV
  go_enter Tryd.func54, Tryd.ntmps54
  go_wp2_with fail
  go_region
  all_goals generalize (d.size : Int) = N at *
  all_goals go_wp2
  all_goals go_ret
  all_goals refine row_end_d w _ _ _ _ rfl (by simp) ?_
  all_goals simp [bv, beBytes, beByte, List.range_succ] <;> omega

set_option maxRecDepth 100000 in
set_option maxHeartbeats 400000 in
theorem headR_7 (n : Int) (d : ByteArray) (w : World) (hn0 : 0 ≤ n) (hn1 : n ≤ 1) : Calls Tryd.prog 54 #[itemV 7 n d] w (RowPost w.heap.size w [244 + n]) := by
  unfold itemV
  go_enter Tryd.func54, Tryd.ntmps54
  go_wp2
  go_ret
  refine row_end w _ _ _ _ rfl (by decide) ?_
  simp [bv] <;> omega

set_option maxRecDepth 100000 in
set_option maxHeartbeats 400000 in
theorem headR_8 (n : Int) (d : ByteArray) (w : World) : Calls Tryd.prog 54 #[itemV 8 n d] w (RowPost w.heap.size w [246]) := by
  unfold itemV
  go_enter Tryd.func54, Tryd.ntmps54
  go_wp2
  go_ret
  refine row_end w _ _ _ _ rfl (by decide) ?_
  simp [bv] <;> omega

end Go.Proofs.YtepinmeidjlmmaaDoor

namespace Go.Proofs.YtepinmeidjlmmaaDoor
open Go.RowKit

/-- append(b, c...) of bytes, b the call's own -/
theorem app_row {ops : Array Oper} {rest : List Oper} {o : Oper} {a : Act} {Q : Exit → Act → World → Prop} {w : World} (hgd : o.guard = none) (s x : Operand)
    (ho : o.op = .call { callee := .builtin .append, args := #[s, x], argTypes := #[25, 25] })
    (base : Nat) (v : Value) (n : Nat) (xs : List Value) (base2 : Nat) (v2 : Value) (l : List Int) (hown : w.ownsRow base 5 1 v n xs) (hs : a.eval s = v)
    (h2 : w.ownsRow base2 5 1 v2 l.length (bv l)) (hx : a.eval x = v2) (hne : 0 < l.length) (hn : n ≤ 1000000) (hl : l.length ≤ 1000000) (hb : base ≤ w.heap.size)
    (h : ∀ v' w', w'.ownsRow base 5 1 v' (n + l.length) (xs ++ bv l) → Below base w w' → wpList Tryd.prog ops Q rest (a.put o.dst v') w') :
    wpList Tryd.prog ops Q (o :: rest) a w := by
  obtain ⟨i0, hi, hz0, hz1, hz2⟩ := info_parts info5
  rcases h2.2 with ⟨_, h0⟩ | ⟨g, cap, cur, rfl, _⟩
  · omega
  refine wpList_append_own _ hgd s x 25 ho base 5 i0 (.int .u8 0) 1 1 Tryd.underlying25 hi hz0 hz1 hz2 rfl (by decide) v n xs hs hown ⟨g, 0, none⟩ l.length cap (bv l) hx (by rw [bv_len]; omega) (fun j u hj => ?_) (fun u hu => ?_) (by unfold maxLen; omega) (by omega) hb ?_
  · have hjl : j < l.length := by
      rcases Nat.lt_or_ge j (bv l).length with h1 | h1
      · rwa [bv_len] at h1
      · rw [List.getElem?_eq_none h1] at hj; cases hj
    have e : (⟨g, 0, none⟩ : Addr).add j = ⟨g, j, none⟩ := by unfold Addr.add; split <;> simp_all
    rw [e, h2.cellAt _ (by omega)]
    exact hj
  · obtain ⟨z, _, rfl⟩ := List.mem_map.1 hu
    simp [Value.oneCell']
  intro v' w' h1 h2 _
  exact h v' w' h1 (below_of_grown hown hb h2)

theorem cell_new5 (w : World) (o1 o2 : Obj) (n : Int) : (((w.alloc o1).alloc o2).alloc (.cells #[.int .u64 n] 45)).cell? ⟨w.heap.size + 2, 0, none⟩ = some (.int .u64 n) := cell_of_block (heap_new5 w _ _ _) rfl
theorem own_new6 (w : World) (o1 : Obj) (x : Int) (o3 : Obj) : (((w.alloc o1).alloc (.cells #[.int .u8 x] 5)).alloc o3).ownsRow w.heap.size 5 1 (.slice (some ⟨w.heap.size + 1, 0, none⟩) 1 1) 1 (bv [x]) := by
  have h := row_lit (w.alloc o1) [x] #[.int .u8 x] 1 w.heap.size (by simp) rfl (by omega) rfl
  rw [show (w.alloc o1).heap.size = w.heap.size + 1 from by simp] at h
  exact h.alloc _

set_option maxRecDepth 100000 in
set_option maxHeartbeats 400000 in
theorem headR_1_8 (n : Int) (d : ByteArray) (w : World) (hn0 : 0 ≤ n) (h1 : 4294967296 ≤ n) : Calls Tryd.prog 54 #[itemV 1 n d] w (RowPost w.heap.size w (encHead 0 n)) := by
  rw [encHead8 h1]
  unfold itemV
  go_enter Tryd.func54, Tryd.ntmps54
  go_wp2_with (first | (go_at_call 77; refine (words1_any _ n _ (cell_new5 _ _ _ _) (by simp) hn0).mono ?_; rintro e w' ⟨v', rfl, ho, hb⟩) | (at_builtin; refine app_row rfl _ _ rfl w.heap.size _ 1 _ _ v' _ (own_below (own_new6 w _ _ _) hb) rfl ho rfl (by simp [beBytes_len]) (by omega) (by simp [beBytes_len]) (by have := hb.size; simp at this; omega) ?_; intro v2 w2 ho2 hb2))
  go_ret
  have hbw : Below w.heap.size w w' := ((((Below.refl _ w).alloc (Nat.le_refl _) _).alloc (by simp) _).alloc (by simp; omega) _).trans (hb.mono (by simp; omega))
  refine ⟨v2, rfl, ?_, hbw.trans hb2⟩
  have e : ∀ (m : Int) (l : List Int), (m :: l).length = 1 + l.length ∧ bv (m :: l) = bv [m] ++ bv l := fun m l => ⟨by simp; omega, rfl⟩
  rw [(e _ _).1, (e _ _).2]
  exact ho2

set_option maxRecDepth 100000 in
set_option maxHeartbeats 400000 in
theorem headR_2_8 (n : Int) (d : ByteArray) (w : World) (hn0 : 0 ≤ n) (h1 : 4294967296 ≤ n) : Calls Tryd.prog 54 #[itemV 2 n d] w (RowPost w.heap.size w (encHead 1 n)) := by
  rw [encHead8 h1]
  unfold itemV
  go_enter Tryd.func54, Tryd.ntmps54
  go_wp2_with (first | (go_at_call 77; refine (words1_any _ n _ (cell_new5 _ _ _ _) (by simp) hn0).mono ?_; rintro e w' ⟨v', rfl, ho, hb⟩) | (at_builtin; refine app_row rfl _ _ rfl w.heap.size _ 1 _ _ v' _ (own_below (own_new6 w _ _ _) hb) rfl ho rfl (by simp [beBytes_len]) (by omega) (by simp [beBytes_len]) (by have := hb.size; simp at this; omega) ?_; intro v2 w2 ho2 hb2))
  go_ret
  have hbw : Below w.heap.size w w' := ((((Below.refl _ w).alloc (Nat.le_refl _) _).alloc (by simp) _).alloc (by simp; omega) _).trans (hb.mono (by simp; omega))
  refine ⟨v2, rfl, ?_, hbw.trans hb2⟩
  have e : ∀ (m : Int) (l : List Int), (m :: l).length = 1 + l.length ∧ bv (m :: l) = bv [m] ++ bv l := fun m l => ⟨by simp; omega, rfl⟩
  rw [(e _ _).1, (e _ _).2]
  exact ho2

set_option maxRecDepth 100000 in
set_option maxHeartbeats 400000 in
theorem headR_5_8 (n : Int) (d : ByteArray) (w : World) (hn0 : 0 ≤ n) (h1 : 4294967296 ≤ n) : Calls Tryd.prog 54 #[itemV 5 n d] w (RowPost w.heap.size w (encHead 4 n)) := by
  rw [encHead8 h1]
  unfold itemV
  go_enter Tryd.func54, Tryd.ntmps54
  go_wp2_with (first | (go_at_call 77; refine (words1_any _ n _ (cell_new5 _ _ _ _) (by simp) hn0).mono ?_; rintro e w' ⟨v', rfl, ho, hb⟩) | (at_builtin; refine app_row rfl _ _ rfl w.heap.size _ 1 _ _ v' _ (own_below (own_new6 w _ _ _) hb) rfl ho rfl (by simp [beBytes_len]) (by omega) (by simp [beBytes_len]) (by have := hb.size; simp at this; omega) ?_; intro v2 w2 ho2 hb2))
  go_ret
  have hbw : Below w.heap.size w w' := ((((Below.refl _ w).alloc (Nat.le_refl _) _).alloc (by simp) _).alloc (by simp; omega) _).trans (hb.mono (by simp; omega))
  refine ⟨v2, rfl, ?_, hbw.trans hb2⟩
  have e : ∀ (m : Int) (l : List Int), (m :: l).length = 1 + l.length ∧ bv (m :: l) = bv [m] ++ bv l := fun m l => ⟨by simp; omega, rfl⟩
  rw [(e _ _).1, (e _ _).2]
  exact ho2

set_option maxRecDepth 100000 in
set_option maxHeartbeats 400000 in
theorem headR_6_8 (n : Int) (d : ByteArray) (w : World) (hn0 : 0 ≤ n) (h1 : 4294967296 ≤ n) : Calls Tryd.prog 54 #[itemV 6 n d] w (RowPost w.heap.size w (encHead 5 n)) := by
  rw [encHead8 h1]
  unfold itemV
  go_enter Tryd.func54, Tryd.ntmps54
  go_wp2_with (first | (go_at_call 77; refine (words1_any _ n _ (cell_new5 _ _ _ _) (by simp) hn0).mono ?_; rintro e w' ⟨v', rfl, ho, hb⟩) | (at_builtin; refine app_row rfl _ _ rfl w.heap.size _ 1 _ _ v' _ (own_below (own_new6 w _ _ _) hb) rfl ho rfl (by simp [beBytes_len]) (by omega) (by simp [beBytes_len]) (by have := hb.size; simp at this; omega) ?_; intro v2 w2 ho2 hb2))
  go_ret
  have hbw : Below w.heap.size w w' := ((((Below.refl _ w).alloc (Nat.le_refl _) _).alloc (by simp) _).alloc (by simp; omega) _).trans (hb.mono (by simp; omega))
  refine ⟨v2, rfl, ?_, hbw.trans hb2⟩
  have e : ∀ (m : Int) (l : List Int), (m :: l).length = 1 + l.length ∧ bv (m :: l) = bv [m] ++ bv l := fun m l => ⟨by simp; omega, rfl⟩
  rw [(e _ _).1, (e _ _).2]
  exact ho2

theorem headR_any (k n : Int) (d : ByteArray) (w : World) (hk0 : 1 ≤ k) (hk1 : k ≤ 8) (hn0 : 0 ≤ n) (h7 : k = 7 → n ≤ 1) (hd : d.size ≤ 1100) : Calls Tryd.prog 54 #[itemV k n d] w (RowPost w.heap.size w (headR k n d)) := by
  have hs : k = 1 ∨ k = 2 ∨ k = 3 ∨ k = 4 ∨ k = 5 ∨ k = 6 ∨ k = 7 ∨ k = 8 := by omega
  have r : n < 24 ∨ (24 ≤ n ∧ n < 256) ∨ (256 ≤ n ∧ n < 65536) ∨ (65536 ≤ n ∧ n < 4294967296) ∨ 4294967296 ≤ n := by omega
  have rd : (d.size : Int) < 24 ∨ (24 ≤ (d.size : Int) ∧ (d.size : Int) < 256) ∨ (256 ≤ (d.size : Int) ∧ (d.size : Int) < 65536) := by omega
  rcases hs with rfl | rfl | rfl | rfl | rfl | rfl | rfl | rfl
  · have e : headR 1 n d = encHead 0 n := by simp [headR, argN, hasDataB]
    rw [e]
    rcases r with h | ⟨h, h2⟩ | ⟨h, h2⟩ | ⟨h, h2⟩ | h
    · exact headR_1_s n d w hn0 h
    · exact headR_1_1 n d w hn0 h h2
    · exact headR_1_2 n d w hn0 h h2
    · exact headR_1_4 n d w hn0 h h2
    · exact headR_1_8 n d w hn0 h
  · have e : headR 2 n d = encHead 1 n := by simp [headR, argN, hasDataB]
    rw [e]
    rcases r with h | ⟨h, h2⟩ | ⟨h, h2⟩ | ⟨h, h2⟩ | h
    · exact headR_2_s n d w hn0 h
    · exact headR_2_1 n d w hn0 h h2
    · exact headR_2_2 n d w hn0 h h2
    · exact headR_2_4 n d w hn0 h h2
    · exact headR_2_8 n d w hn0 h
  · have e : headR 3 n d = encHead 2 (d.size : Int) := by simp [headR, argN, hasDataB]
    rw [e]
    rcases rd with h | ⟨h, h2⟩ | ⟨h, h2⟩
    · exact headR_3_s n d w hd h
    · exact headR_3_1 n d w hd h h2
    · exact headR_3_2 n d w hd h h2
  · have e : headR 4 n d = encHead 3 (d.size : Int) := by simp [headR, argN, hasDataB]
    rw [e]
    rcases rd with h | ⟨h, h2⟩ | ⟨h, h2⟩
    · exact headR_4_s n d w hd h
    · exact headR_4_1 n d w hd h h2
    · exact headR_4_2 n d w hd h h2
  · have e : headR 5 n d = encHead 4 n := by simp [headR, argN, hasDataB]
    rw [e]
    rcases r with h | ⟨h, h2⟩ | ⟨h, h2⟩ | ⟨h, h2⟩ | h
    · exact headR_5_s n d w hn0 h
    · exact headR_5_1 n d w hn0 h h2
    · exact headR_5_2 n d w hn0 h h2
    · exact headR_5_4 n d w hn0 h h2
    · exact headR_5_8 n d w hn0 h
  · have e : headR 6 n d = encHead 5 n := by simp [headR, argN, hasDataB]
    rw [e]
    rcases r with h | ⟨h, h2⟩ | ⟨h, h2⟩ | ⟨h, h2⟩ | h
    · exact headR_6_s n d w hn0 h
    · exact headR_6_1 n d w hn0 h h2
    · exact headR_6_2 n d w hn0 h h2
    · exact headR_6_4 n d w hn0 h h2
    · exact headR_6_8 n d w hn0 h
  · exact headR_7 n d w hn0 (h7 rfl)
  · exact headR_8 n d w

end Go.Proofs.YtepinmeidjlmmaaDoor

namespace Go.Proofs.YtepinmeidjlmmaaDoor
open Go.RowKit

theorem conv_row {w : World} {base : Nat} {v : Value} {l : List Int} (h : w.ownsRow base 5 1 v l.length (bv l)) (hl : 0 < l.length) : (convert 25 9 v).run Tryd.prog w = .ok (.string (strOfNums l)) w := by
  rcases h.2 with ⟨_, h0⟩ | ⟨g, cap, cur, rfl, _⟩
  · omega
  refine run_convert_bytes_arg w 25 5 Tryd.underlying25 Tryd.underlying5 g 0 l.length cap l rfl (fun i hi => ?_) 9 Tryd.underlying9
  rw [Nat.zero_add, h.cellAt _ (by omega)]
  simp [bv, List.getD, hi]

theorem headR_pos (k n : Int) (d : ByteArray) : 0 < (headR k n d).length := by
  unfold headR
  split
  · simp
  split
  · simp
  unfold encHead
  split
  · simp
  split
  · simp
  split
  · simp
  split <;> simp

theorem below_after2 {w W w9 : World} (h1 : Below w.heap.size w W) (h2 : Below W.drew.heap.size W.drew w9) : Below w.heap.size w w9 := h1.drew.trans (h2.mono h1.size)

def bytesS (k n : Int) (d : ByteArray) : ByteArray := strOfNums (headR k n d) ++ d
set_option maxRecDepth 100000 in
set_option maxHeartbeats 1000000 in
theorem bytesR_any (k n : Int) (d : ByteArray) (w : World) (hk0 : 1 ≤ k) (hk1 : k ≤ 8) (hn0 : 0 ≤ n) (h7 : k = 7 → n ≤ 1) (hd : d.size ≤ 1100) :
    Calls Tryd.prog 38 #[itemV k n d] w fun e w' => e = .returned (.string (bytesS k n d)) ∧ Below w.heap.size w w' := by
  have HS0 := Lib.hid (BoxS.mk' (heap_new w (.cells #[.int .i64 k, .int .u64 n, .string d] 58)))
  have HB0 := Lib.hid ((Below.refl w.heap.size w).alloc (Nat.le_refl _) (.cells #[.int .i64 k, .int .u64 n, .string d] 58))
  have HC := Lib.hid (fun (W : World) => headR_any k n d W hk0 hk1 hn0 h7 hd)
  have hlen : (headR k n d).length ≤ 9 := by
    unfold headR
    split
    · simp
    split
    · simp
    exact encHead_len _ _
  have hsum : (strOfNums (headR k n d)).size + d.size ≤ 9223372036854775807 := by rw [strOfNums_size]; omega
  have hsum2 : ((strOfNums (headR k n d)).size : Int) + (d.size : Int) ≤ 9223372036854775807 := by omega
  have hadd := fun (W : World) => run_string_add_sum (P := Tryd.prog) (w := W) (strOfNums (headR k n d)) d hsum
  unfold itemV
  go_enter Tryd.func38, Tryd.ntmps38
  go_wp2_with fail
  go_region_with (go_at_call 54; refine (HC.out _).mono ?_; rintro e w2 ⟨v2, rfl, ho2, hb2⟩; have hcv2 := conv_row ho2 (headR_pos k n d); have hc2 := (hb2.cell (p := ⟨w.heap.size, 2, none⟩) (by simp)).trans HS0.out.2.2.2)
  all_goals go_wp2
  all_goals go_ret
  all_goals exact ⟨rfl, below_after2 HB0.out hb2⟩

def lessB (a b : ByteArray) : Bool := if a.size = b.size then Op.bytesLess a.toList b.toList else decide (a.size < b.size)
set_option maxRecDepth 100000 in
set_option maxHeartbeats 400000 in
theorem less_ne (a b : ByteArray) (w : World) (h : a.size ≠ b.size) : Calls Tryd.prog 70 #[.string a, .string b] w fun e w' => e = .returned (.bool (decide (a.size < b.size))) ∧ w = w' := by
  have h1 : ((a.size : Int) != (b.size : Int)) = true := by simp; omega
  go_enter Tryd.func70, Tryd.ntmps70
  go_wp2
  go_ret
  exact ⟨rfl, rfl⟩
set_option maxRecDepth 100000 in
set_option maxHeartbeats 400000 in
theorem less_eq (a b : ByteArray) (w : World) (h : a.size = b.size) : Calls Tryd.prog 70 #[.string a, .string b] w fun e w' => e = .returned (.bool (lessB a b)) ∧ w = w' := by
  have h1 : ((a.size : Int) != (b.size : Int)) = false := by simp; omega
  go_enter Tryd.func70, Tryd.ntmps70
  go_wp2
  go_ret
  exact ⟨by rw [lessB, if_pos h]; rfl, rfl⟩
theorem less_any (a b : ByteArray) (w : World) : Calls Tryd.prog 70 #[.string a, .string b] w fun e w' => e = .returned (.bool (lessB a b)) ∧ w = w' := by
  by_cases h : a.size = b.size
  · exact less_eq a b w h
  · have e : lessB a b = decide (a.size < b.size) := by rw [lessB, if_neg h]
    rw [e]
    exact less_ne a b w h

def checkRE (c dep : Nat) (key : Bool) (bf : ByteArray) (k n : Int) (d : ByteArray) : Int :=
  if 512 ≤ c then 8 else if k < 1 ∨ 8 < k then 3 else if key = true ∧ canKeyB k = false then 3 else if 8 < dep then 5 else if shapeB k n d = false then 4 else if tooLargeB k (argN k n d) = true then 8
  else if k = 4 ∧ Lib.validD d.data.toList = false then 6 else if key = true ∧ bf.toList.isEmpty = false ∧ lessB bf (bytesS k n d) = false then 7 else 0
abbrev CheckPost (w : World) (r : Int) (e : Ending) (w' : World) : Prop := e = .returned (.int .i64 r) ∧ Below w.heap.size w w'

theorem below_aft {w W w9 : World} (h1 : Below w.heap.size w W) (h2 : Below W.heap.size W w9) : Below w.heap.size w w9 := h1.trans (h2.mono h1.size)
end Go.Proofs.YtepinmeidjlmmaaDoor
