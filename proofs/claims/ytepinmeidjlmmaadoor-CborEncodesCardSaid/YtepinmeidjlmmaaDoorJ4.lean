/- Joined: B6, B7, H1, H2, H3, H4, Held. -/
import Derived.Test.YtepinmeidjlmmaaDoorJ3
import Derived.WalkKit
import Derived.Deep.RegionHeld3
namespace Go.Proofs.YtepinmeidjlmmaaDoor
open Go.RowKit

set_option maxRecDepth 100000 in
set_option maxHeartbeats 1000000 in
theorem pairs1 (kb vb : Nat) (key : Int) (a : Option Addr) (n c : Nat) (w : World) (hk : kb < w.heap.size) (hv : vb < w.heap.size) (h0 : w.cell? ⟨kb, 0, none⟩ = some (.int .u64 key)) (h1 : w.cell? ⟨vb, 0, none⟩ = some (.slice a n c)) :
    Calls Tryd.prog 49 #[.slice (some ⟨kb, 0, none⟩) 1 1, .slice (some ⟨vb, 0, none⟩) 1 1] w fun e w' => e = .returned (.slice (some ⟨w.heap.size, 0, none⟩) 1 1) ∧ w.alloc (.cells #[.int .u64 key, .slice a n c] 90) = w' := by
  have hmk : ∀ w : World, (Instr.makeSlice 87 (.int .i64 1) (.int .i64 1)).run Tryd.prog w = .ok (.slice (some ⟨w.heap.size, 0, none⟩) 1 1) (w.alloc (.cells #[.int .u64 0, .slice none 0 0] 90)) := fun _ => by kernel_rfl
  go_enter Tryd.func49, Tryd.ntmps49
  go_wp2_with fail
  go_loopw [13] (fun i wr => (i = .int .i64 0 ∧ w.alloc (.cells #[.int .u64 0, .slice none 0 0] 90) = wr) ∨ (i = .int .i64 1 ∧ w.alloc (.cells #[.int .u64 key, .slice a n c] 90) = wr)) (fun i _ => 1 - (intOf i).toNat)
  case atStart => exact .inl ⟨rfl, rfl⟩
  case round =>
    rcases hrel with ⟨rfl, rfl⟩ | ⟨rfl, rfl⟩
    · go_wp2
      go_roundw
      case rel => simp
      case measure => simp [intOf]
    · go_wp2_with (go_at_call 71; refine (sort1 _ _ _ _).mono ?_; rintro e w' ⟨rfl, rfl⟩)
      go_ret
      exact ⟨rfl, rfl⟩

theorem info22 : (Tryd.prog.info? 22).map (fun i => (i.zero, i.size, i.bytes)) = some (some (.slice none 0 0), 1, 24) := by kernel_rfl

/-- append(nil, a, b) of two slices, as one step of a region -/
theorem step_two {ops : Array Oper} {o : Oper} {a : Act} {W : World} {K : Act → World → Prop} {Q : Exit → Act → World → Prop} {E : Prop} (hgd : o.guard = none) (s x : Operand)
    (ho : o.op = .call { callee := .builtin .append, args := #[s, x], argTypes := #[50, 50] }) (a1 a2 : Option Addr) (n1 c1 n2 c2 B : Nat) (hs : a.eval s = .slice none 0 0)
    (hB : W.heap[B]? = some (.cells #[.slice a1 n1 c1, .slice a2 n2 c2] 22 (0, 0))) (hx : a.eval x = .slice (some ⟨B, 0, none⟩) 2 2)
    (h : ∀ g cap w', g < w'.heap.size → w'.cell? ⟨g, 0, none⟩ = some (.slice a1 n1 c1) → w'.cell? ⟨g, 1, none⟩ = some (.slice a2 n2 c2) → Below W.heap.size W w' → K (a.put o.dst (.slice (some ⟨g, 0, none⟩) 2 cap)) w') :
    if Region.wanted o (yielded ops a.tmps) = true then Oper.wp Tryd.prog o a W K Q else E := by
  have hw : Region.wanted o (yielded ops a.tmps) = true := by simp [Region.wanted, hgd]
  rw [if_pos hw]
  obtain ⟨i0, hi, hz0, hz1, hz2⟩ := info_parts info22
  refine wp_append_own W s x 50 ho W.heap.size 22 i0 _ 1 24 Tryd.underlying50 hi hz0 hz1 hz2 rfl (by decide) (.slice none 0 0) 0 [] hs (World.ownsRow_nil _ _ _ _) ⟨B, 0, none⟩ 2 2 [.slice a1 n1 c1, .slice a2 n2 c2] hx rfl ?_ (by simp [Value.oneCell']) (by unfold maxLen; omega) (by omega) (Nat.le_refl _) ?_
  · intro j u hj
    have e : (⟨B, 0, none⟩ : Addr).add j = ⟨B, j, none⟩ := by unfold Addr.add; split <;> simp_all
    rw [e]
    exact cell_of_block hB (by simpa using hj)
  intro v' w' h1 h2 _
  obtain ⟨g, cap, rfl⟩ : ∃ g cap, v' = .slice (some ⟨g, 0, none⟩) 2 cap := by
    rcases h1.2 with ⟨_, h⟩ | ⟨g, cap, _, h, _⟩
    · omega
    · exact ⟨g, cap, h⟩
  refine h g cap w' (h1.lt g rfl).2 ?_ ?_ (below_of_grown (World.ownsRow_nil W W.heap.size 22 1) (Nat.le_refl _) h2)
  · rw [h1.cellAt 0 (by omega)]; rfl
  · rw [h1.cellAt 1 (by omega)]; rfl

theorem heap_new5 (w : World) (o1 o2 o3 : Obj) : (((w.alloc o1).alloc o2).alloc o3).heap[w.heap.size + 2]? = some o3 := by
  have h := heap_new ((w.alloc o1).alloc o2) o3
  rw [show ((w.alloc o1).alloc o2).heap.size = w.heap.size + 2 from by simp] at h
  exact h

theorem heap_new6 (w : World) (o1 o2 o3 : Obj) : (((w.alloc o1).alloc o2).alloc o3).heap[w.heap.size + 1]? = some o2 := by
  rw [Below.heap_alloc _ _ _ (by simp)]; exact heap_new3 w o1 o2

set_option maxRecDepth 100000 in
set_option maxHeartbeats 1000000 in
theorem map1 (kb vb : Nat) (key : Int) (b off cap : Nat) (l : List It) (w : World) (hk : kb < w.heap.size) (hv : vb < w.heap.size) (h0 : w.cell? ⟨kb, 0, none⟩ = some (.int .u64 key)) (h1 : w.cell? ⟨vb, 0, none⟩ = some (.slice (some ⟨b, off, none⟩) l.length cap))
    (hI : ItemsAt w w.heap.size (.slice (some ⟨b, off, none⟩) l.length cap) l) (ht : Tabs w) (hk0 : 0 ≤ key) (hl : l.length ≤ 100000) (hz : validE l = 0) (hz2 : validE (⟨6, 1, ⟨#[]⟩⟩ :: ⟨1, key, ⟨#[]⟩⟩ :: l) = 0) :
    Calls Tryd.prog 30 #[.slice (some ⟨kb, 0, none⟩) 1 1, .slice (some ⟨vb, 0, none⟩) 1 1] w fun e w' => ∃ v, e = .returned (.tuple #[v, .int .i64 0]) ∧ ItemsAt w' w'.heap.size v (⟨6, 1, ⟨#[]⟩⟩ :: ⟨1, key, ⟨#[]⟩⟩ :: l) ∧ Below w.heap.size w w' := by
  have hne : l ≠ [] := by rintro rfl; exact absurd hz (by decide)
  have hB1 : Below w.heap.size w (w.alloc (.cells #[.int .u64 key, .slice (some ⟨b, off, none⟩) l.length cap] 90)) := (Below.refl _ w).alloc (Nat.le_refl _) _
  have hV1 : ValsAt (w.alloc (.cells #[.int .u64 key, .slice (some ⟨b, off, none⟩) l.length cap] 90)) (w.alloc (.cells #[.int .u64 key, .slice (some ⟨b, off, none⟩) l.length cap] 90)).heap.size vb [l] :=
    ⟨by simp; omega, fun i hi => by
      obtain rfl : i = 0 := by simp at hi; omega
      exact ⟨b, off, cap, (hB1.cell (p := ⟨vb, 0, none⟩) hv).trans h1, itemsAt_mono (hI.below hB1) (by simp)⟩, by intro x hx; simp at hx; subst hx; exact hne⟩
  have hA : valAllE [l] = 0 := by rw [valAll_yes hz]; rfl
  have C50 := validateAll_any vb 1 [l] _ hV1 (ht.later hB1) (by simp)
  rw [hA] at C50
  have HC50 := Lib.hid C50
  have HB1 := Lib.hid hB1
  have HP := Lib.hid (pairs1 kb vb key (some ⟨b, off, none⟩) l.length cap w hk hv h0 h1)
  have HI := Lib.hid hI
  have HT := Lib.hid ht
  have HZ2 := Lib.hid hz2
  have HNE := Lib.hid hne
  clear hV1 hA C50 hB1 hI ht hz hz2 hne h0 h1
  go_enter Tryd.func30, Tryd.ntmps30
  go_wp2_with (go_at_call 49; refine HP.out.mono ?_; rintro e w1 ⟨rfl, rfl⟩)
  refine wp_loop_rounds 1 ?_
  rw [rounds_succ]
  go_wp2_with (go_at_call 50; refine HC50.out.mono ?_; rintro e w2 ⟨rfl, hb2⟩)
  have p0 : w2.cell? ⟨w.heap.size, 0, none⟩ = some (.int .u64 key) := (hb2.cell (p := ⟨w.heap.size, 0, none⟩) (by simp)).trans (by simp)
  have p1 : w2.cell? ⟨w.heap.size, 1, none⟩ = some (.slice (some ⟨b, off, none⟩) l.length cap) := (hb2.cell (p := ⟨w.heap.size, 1, none⟩) (by simp)).trans (by simp)
  have hbw := HB1.out.trans (hb2.mono HB1.out.size)
  have HBW := Lib.hid hbw
  have HP0 := Lib.hid p0
  have HP1 := Lib.hid p1
  have hsz2 : w.heap.size < w2.heap.size := by have := hb2.size; simp at this; omega
  clear hbw hb2 p0 p1
  go_loopw [9, 45] (fun v i wr => Below w.heap.size w wr ∧ w.heap.size < wr.heap.size ∧ ((i = .int .i64 0 ∧ v = .slice none 0 0 ∧ wr.cell? ⟨w.heap.size, 0, none⟩ = some (.int .u64 key) ∧ wr.cell? ⟨w.heap.size, 1, none⟩ = some (.slice (some ⟨b, off, none⟩) l.length cap)) ∨ (i = .int .i64 1 ∧ ∃ cb cc, v = .slice (some ⟨cb, 0, none⟩) 2 cc ∧ ValsAt wr wr.heap.size cb [[⟨1, key, ⟨#[]⟩⟩], l]))) (fun _ i _ => 1 - (intOf i).toNat)
  case atStart => exact ⟨HBW.out, hsz2, .inl ⟨rfl, rfl, HP0.out, HP1.out⟩⟩
  case round =>
    obtain ⟨hbr, hsr, ⟨rfl, rfl, q0, q1⟩ | ⟨rfl, cb, cc, rfl, hV⟩⟩ := hrel
    · have HBR := Lib.hid hbr
      clear hbr
      have hW : Below wr.heap.size wr (((wr.alloc (.cells #[.int .u64 key, .slice (some ⟨b, off, none⟩) l.length cap] 90)).alloc (.cells (itemCs 1 key ⟨#[]⟩) 58)).alloc (.cells #[.slice (some ⟨wr.heap.size + 1, 0, none⟩) 1 1, .slice (some ⟨b, off, none⟩) l.length cap] 22)) := (((Below.refl _ wr).alloc (Nat.le_refl _) _).alloc (by simp) _).alloc (by simp; omega) _
      have HW := Lib.hid hW
      clear hW
      go_wp2_with fail
      go_region_held3 (fun W => W.cell? ⟨wr.heap.size, 0, none⟩ = some (.int .u64 key) ∧ W.cell? ⟨wr.heap.size, 1, none⟩ = some (.slice (some ⟨b, off, none⟩) l.length cap))
        (first | (((try refine ⟨?_, ?_⟩) <;> go_simp); done) | (exact ⟨(hb3.cell (p := ⟨wr.heap.size, 0, none⟩) (by simp <;> omega)).trans (And.left (by assumption)), (hb3.cell (p := ⟨wr.heap.size, 1, none⟩) (by simp <;> omega)).trans (And.right (by assumption))⟩))
        (first | (go_at_call 34; refine (uint_any _ _).mono ?_; rintro e w3 ⟨rfl, rfl⟩) | (refine step_two rfl (.tmp 49) (.tmp 55) rfl (some ⟨wr.heap.size + 1, 0, none⟩) (some ⟨b, off, none⟩) 1 1 l.length cap (wr.heap.size + 2) rfl (by exact heap_new5 wr _ _ _) rfl ?_; intro g gc w4 hg4 e0 e1 hb3))
      have hb4 := HW.out.drew.trans (hb3.mono HW.out.drew.size)
      have hit : w4.heap[wr.heap.size + 1]? = some (.cells (itemCs 1 key ⟨#[]⟩) 58 (0, 0)) := (hb3.block (wr.heap.size + 1) (by simp)).trans (heap_new6 wr _ _ _)
      have hs4 := hb4.size
      have hlt4 : wr.heap.size + 1 < w4.heap.size := lt_of_heap hit
      have hV4 : ValsAt w4 w4.heap.size g [[⟨1, key, ⟨#[]⟩⟩], l] := ⟨hg4, fun i hi => by
        have hi2 : i = 0 ∨ i = 1 := by simp at hi; omega
        rcases hi2 with rfl | rfl
        · exact ⟨_, 0, 1, e0, itemsAt_one hlt4 hit hk0 (Nat.zero_le _)⟩
        · exact ⟨b, off, cap, e1, itemsAt_mono ((HI.out.below HBR.out).below (hb4.mono (Nat.le_of_lt hsr))) (by omega)⟩, by
        intro x hx
        simp only [List.mem_cons, List.not_mem_nil, or_false] at hx
        rcases hx with rfl | rfl
        · simp
        · exact HNE.out⟩
      have HV4 := Lib.hid hV4
      have HB4 := Lib.hid hb4
      clear hV4 hit hb3 hb4 e0 e1
      go_split_ands
      go_wp2_with fail
      go_roundw
      case rel => exact ⟨HBR.out.trans (HB4.out.mono (Nat.le_of_lt hsr)), by omega, .inr ⟨rfl, g, gc, rfl, HV4.out⟩⟩
      case measure => simp [intOf]
    · have HBR := Lib.hid hbr
      have hC := container_any 6 1 cb cc [[⟨1, key, ⟨#[]⟩⟩], l] wr hV (HT.out.later hbr) (.inr rfl) (by omega) (by simp [total]) (by simp [total]; omega) (by simp) (by
        intro y hy x hx
        simp only [List.mem_cons, List.not_mem_nil, or_false] at hy
        rcases hy with rfl | rfl
        · simp only [List.mem_cons, List.not_mem_nil, or_false] at hx
          subst hx
          exact ⟨hk0, Nat.zero_le _⟩
        · exact HI.out.ok x hx) (⟨1, key, ⟨#[]⟩⟩ :: l) (by simp) HZ2.out
      have HC := Lib.hid hC
      clear hbr hC hV
      go_wp2_with (go_at_call 51; refine HC.out.mono ?_; rintro e w3 ⟨v3, rfl, hI3, hs3, hb3⟩)
      go_ret2
      exact ⟨v3, rfl, hI3, HBR.out.trans (hb3.mono HBR.out.size)⟩
end Go.Proofs.YtepinmeidjlmmaaDoor

namespace Go.Proofs.YtepinmeidjlmmaaDoor
open Go.RowKit

def itA : List It := [⟨1, 24, ⟨#[]⟩⟩]
def itT : List It := [⟨4, 0, ⟨#[97]⟩⟩]
def itM : List It := [⟨6, 1, ⟨#[]⟩⟩, ⟨1, 1, ⟨#[]⟩⟩, ⟨4, 0, ⟨#[97]⟩⟩]
theorem validA : validE itA = 0 := by decide +kernel
theorem encA : encAll itA = [24, 24] := by decide +kernel
theorem validT : validE itT = 0 := by decide +kernel
theorem validM : validE itM = 0 := by decide +kernel
theorem encM : encAll itM = [161, 1, 97, 97] := by decide +kernel

theorem encode_fix (l : List It) (bs : List Int) (n : Nat) (v : Value) (w : World) (hI : ItemsAt w w.heap.size v l) (ht : Tabs w) (hz : validE l = 0) (hb : encAll l = bs) (hn : bs.length = n) (hn0 : 0 < n) :
    Calls Tryd.prog 16 #[v] w fun e w' => ∃ g cap, e = .returned (.tuple #[.slice (some ⟨g, 0, none⟩) n cap, .int .i64 0]) ∧ g < w'.heap.size ∧ (∀ i, i < n → w'.cell? ⟨g, i, none⟩ = some (.int .u8 (bs.getD i 0))) ∧ Below w.heap.size w w' := by
  refine (encode_good l v w hI ht hz).mono ?_
  rintro e w' ⟨v', rfl, ho, hbl⟩
  rw [hb, hn] at ho
  obtain ⟨g, cap, rfl, hg, hlt⟩ := own_slice ho hn0
  exact ⟨g, cap, rfl, hlt, own_cells ho, hbl⟩

theorem hW4 (w : World) (o1 o2 o3 : Obj) : (((w.alloc o1).alloc o2).alloc o3).cell? ⟨w.heap.size, 0, none⟩ = (w.alloc o1).cell? ⟨w.heap.size, 0, none⟩ :=
  (((((Below.refl _ (w.alloc o1)).alloc (Nat.le_refl _) o2).alloc (by simp) o3)).cell (p := ⟨w.heap.size, 0, none⟩) (by simp))

set_option maxRecDepth 100000 in
set_option maxHeartbeats 1000000 in
theorem awake_any (w : World) (ht : Tabs w) : Calls Tryd.prog 15 #[] w fun e w' => e = .returned (.bool true) ∧ Below w.heap.size w w' := by
  have hB1 : Below w.heap.size w (w.alloc (.cells #[.int .i64 1, .int .u64 24, .string ⟨#[]⟩] 58)) := (Below.refl _ w).alloc (Nat.le_refl _) _
  have C1 := encode_fix itA [24, 24] 2 (.slice (some ⟨w.heap.size, 0, none⟩) 1 1) _ (itemsAt_one (by simp) (heap_new w (.cells (itemCs 1 24 ⟨#[]⟩) 58)) (by omega) (Nat.zero_le _)) (ht.later hB1) validA encA rfl (by omega)
  have HC1 := Lib.hid C1
  have HT := Lib.hid ht
  have HB1 := Lib.hid hB1
  clear C1 ht hB1
  go_enter Tryd.func15, Tryd.ntmps15
  go_wp2_with (go_at_call 16; refine HC1.out.mono ?_; rintro e w1 ⟨g1, cap1, rfl, hg1, hc1, hb1⟩)
  refine (text_any _ _).mono ?_
  rintro e w2 ⟨rfl, rfl⟩
  have hb1' := HB1.out.trans (hb1.mono HB1.out.size)
  have hW3 : Below w1.heap.size w1 (((w1.alloc (.cells #[.int .u64 1] 45)).alloc (.cells (itemCs 4 0 ⟨#[97]⟩) 58)).alloc (.cells #[.slice (some ⟨w1.heap.size + 1, 0, none⟩) 1 1] 22)) := (((Below.refl _ w1).alloc (Nat.le_refl _) _).alloc (by simp) _).alloc (by simp; omega) _
  have hb3 := hb1'.trans (hW3.mono hb1'.size)
  have C3 := map1 w1.heap.size (w1.heap.size + 2) 1 (w1.heap.size + 1) 0 1 itT (((w1.alloc (.cells #[.int .u64 1] 45)).alloc (.cells (itemCs 4 0 ⟨#[97]⟩) 58)).alloc (.cells #[.slice (some ⟨w1.heap.size + 1, 0, none⟩) 1 1] 22)) (by simp; omega) (by simp)
    ((hW4 w1 _ _ _).trans (by simp)) (cell_of_block (heap_new5 w1 _ _ _) rfl) (itemsAt_one (by simp) (heap_new6 w1 _ _ _) (by omega) (by unfold maxLen; decide)) (HT.out.later hb3) (by omega) (by decide) validT validM
  have HC3 := Lib.hid C3
  have HB3 := Lib.hid hb3
  have HC1c := Lib.hid (fun i hi => (hW3.cell (p := ⟨g1, i, none⟩) hg1).trans (hc1 i hi))
  clear C3 hb3 hW3 hb1' hb1 hc1
  go_wp2_with fail
  refine HC3.out.mono ?_
  rintro e w4 ⟨v4, rfl, hI4, hb4⟩
  have hb4' := HB3.out.trans (hb4.mono HB3.out.size)
  have C4 := encode_fix itM [161, 1, 97, 97] 4 v4 w4 hI4 (HT.out.later hb4') validM encM rfl (by omega)
  have HC4 := Lib.hid C4
  have HB4 := Lib.hid hb4'
  have hg14 : g1 < w4.heap.size := by have := hb4.size; simp at this; omega
  have HC1d := Lib.hid (fun i hi => (hb4.cell (p := ⟨g1, i, none⟩) (by simp; omega)).trans (HC1c.out i hi))
  clear C4 hI4 hb4 hb4' HC3 HC1c HC1 HB3 HB1
  go_wp2_with fail
  refine HC4.out.mono ?_
  rintro e w5 ⟨g2, cap2, rfl, hg2, hc2, hb5⟩
  have hb5' := HB4.out.trans (hb5.mono HB4.out.size)
  have hW6 : Below w5.heap.size w5 (w5.alloc (.cells #[.int .u8 24, .int .u8 23] 5)) := (Below.refl _ w5).alloc (Nat.le_refl _) _
  have hb6' := hb5'.trans (hW6.mono hb5'.size)
  have C6 := decode24_bad w5.heap.size 0 2 2 23 (w5.alloc (.cells #[.int .u8 24, .int .u8 23] 5)) (by simp) (by omega) (by omega) (by omega) (by simp) (by simp) (by omega) (by omega)
  have HC6 := Lib.hid C6
  have HB6 := Lib.hid hb6'
  have hg16 : g1 < (w5.alloc (.cells #[.int .u8 24, .int .u8 23] 5)).heap.size := by have := hb5.size; simp; omega
  have HC1e := Lib.hid (fun i hi => (hW6.cell (p := ⟨g1, i, none⟩) (by have := hb5.size; show g1 < _; omega)).trans ((hb5.cell (p := ⟨g1, i, none⟩) hg14).trans (HC1d.out i hi)))
  have HC2e := Lib.hid (fun i hi => (hW6.cell (p := ⟨g2, i, none⟩) hg2).trans (hc2 i hi))
  have hg26 : g2 < (w5.alloc (.cells #[.int .u8 24, .int .u8 23] 5)).heap.size := by simp; omega
  clear C6 hb6' hW6 hb5' hb5 hc2 HC4 HC1d HB4
  go_wp2_with fail
  refine HC6.out.mono ?_
  rintro e w7 ⟨rfl, hb7⟩
  have k1 : (convert 25 9 (.slice (some ⟨g1, 0, none⟩) 2 cap1)).run Tryd.prog w7 = .ok (.string ⟨#[24, 24]⟩) w7 :=
    run_convert_bytes_arg w7 25 5 Tryd.underlying25 Tryd.underlying5 g1 0 2 cap1 [24, 24] rfl (fun i hi => by rw [Nat.zero_add]; exact (hb7.cell (p := ⟨g1, i, none⟩) hg16).trans (HC1e.out i hi)) 9 Tryd.underlying9
  have k2 : (convert 25 9 (.slice (some ⟨g2, 0, none⟩) 4 cap2)).run Tryd.prog w7 = .ok (.string ⟨#[161, 1, 97, 97]⟩) w7 :=
    run_convert_bytes_arg w7 25 5 Tryd.underlying25 Tryd.underlying5 g2 0 4 cap2 [161, 1, 97, 97] rfl (fun i hi => by rw [Nat.zero_add]; exact (hb7.cell (p := ⟨g2, i, none⟩) hg26).trans (HC2e.out i hi)) 9 Tryd.underlying9
  have HB7 := Lib.hid (HB6.out.trans (hb7.mono HB6.out.size))
  clear hb7 HC1e HC2e HC6 HB6 hg16 hg26
  go_wp2
  go_ret
  exact ⟨rfl, HB7.out⟩

set_option maxRecDepth 100000 in
set_option maxHeartbeats 1000000 in
/-- two slices that read as the same items -/
theorem same_any (v1 v2 : Value) (B1 B2 : Nat) (l : List It) (w : World) (h1 : ItemsAt w B1 v1 l) (h2 : ItemsAt w B2 v2 l) :
    Calls Tryd.prog 24 #[v1, v2] w fun e w' => e = .returned (.bool true) ∧ ∃ m, w.drewN m = w' := by
  have hlen := h1.len
  rcases h1.form with ⟨rfl, rfl⟩ | ⟨b, off, cap, rfl, hb, hc⟩
  · rcases h2.form with ⟨rfl, _⟩ | ⟨b2, off2, cap2, rfl, hb2, hc2⟩
    · clear h1 h2
      go_enter Tryd.func24, Tryd.ntmps24
      go_wp2_with fail
      refine wp_loop_rounds 1 ?_
      rw [rounds_succ]
      go_wp2
      go_ret
      exact ⟨rfl, 0, rfl⟩
    · clear h1 h2 hc2
      go_enter Tryd.func24, Tryd.ntmps24
      go_wp2_with fail
      refine wp_loop_rounds 1 ?_
      rw [rounds_succ]
      go_wp2
      go_ret
      exact ⟨rfl, 0, rfl⟩
  · rcases h2.form with ⟨rfl, rfl⟩ | ⟨b2, off2, cap2, rfl, hb2, hc2⟩
    · clear h1 h2 hc
      go_enter Tryd.func24, Tryd.ntmps24
      go_wp2_with fail
      refine wp_loop_rounds 1 ?_
      rw [rounds_succ]
      go_wp2
      go_ret
      exact ⟨rfl, 0, rfl⟩
    · have H1 := Lib.hid hc
      have H2 := Lib.hid hc2
      clear h1 h2 hc hc2
      go_enter Tryd.func24, Tryd.ntmps24
      go_wp2_with fail
      go_loopw [5] (fun i wr => ∃ j : Nat, j ≤ l.length ∧ i = .int .i64 j ∧ ∃ m, w.drewN m = wr) (fun i _ => l.length - (intOf i).toNat)
      case atStart => exact ⟨0, by omega, rfl, 0, rfl⟩
      case round =>
        obtain ⟨j, hj, rfl, m, rfl⟩ := hrel
        by_cases hlt : j < l.length
        · obtain ⟨q0, q1, q2⟩ := H1.out j hlt
          obtain ⟨r0, r1, r2⟩ := H2.out j hlt
          generalize l[j] = x at q0 q1 q2 r0 r1 r2
          go_wp2_with fail
          go_quiet (fail)
          go_wp2_with fail
          go_roundw
          case rel => exact ⟨j + 1, by omega, by go_num, m + nq, rfl⟩
          case measure => simp [intOf]; omega
        · go_wp2
          go_ret
          exact ⟨rfl, m, rfl⟩
end Go.Proofs.YtepinmeidjlmmaaDoor

/- A reader over any bytes: take. -/
namespace Go.Proofs.YtepinmeidjlmmaaDoor
open Go.RowKit
set_option maxRecDepth 100000

/-- a slice value that holds the bytes zs -/
structure Bys (w : World) (A : Option Addr) (n : Nat) (zs : List Int) : Prop where
  len : zs.length = n
  rng : ∀ z ∈ zs, 0 ≤ z ∧ z ≤ 255
  at_ : ∀ i, i < n → ∃ a, A = some a ∧ w.cell? (a.add i) = some (.int .u8 (zs.getD i 0))
theorem add_add' (a : Addr) (i j : Nat) : (a.add i).add j = a.add (i + j) := by
  unfold Addr.add
  by_cases hi : i = 0 <;> by_cases hj : j = 0 <;> simp [hi, hj, Nat.add_assoc]
theorem block_add (a : Addr) (n : Nat) : (a.add n).block = a.block := by unfold Addr.add; split <;> rfl
theorem cell_in {w : World} {a : Addr} {v : Value} (h : w.cell? a = some v) : a.block < w.heap.size := by
  rcases Nat.lt_or_ge a.block w.heap.size with h1 | h1
  · exact h1
  · unfold World.cell? at h
    simp [Array.getElem?_eq_none h1] at h
theorem Bys.below {w w' : World} {A : Option Addr} {n : Nat} {zs : List Int} (h : Bys w A n zs) (hb : Below w.heap.size w w') : Bys w' A n zs :=
  ⟨h.len, h.rng, fun i hi => by
    obtain ⟨a, e, hc⟩ := h.at_ i hi
    exact ⟨a, e, (hb.cell (cell_in hc)).trans hc⟩⟩
/-- bytes below a block's number stay when what lies below it stays -/
def BysB (w : World) (B : Nat) (A : Option Addr) (n : Nat) (zs : List Int) : Prop := Bys w A n zs ∧ ∀ a, A = some a → 0 < n → a.block < B
theorem BysB.of {w : World} {A : Option Addr} {n : Nat} {zs : List Int} (h : Bys w A n zs) : BysB w w.heap.size A n zs :=
  ⟨h, fun a e h0 => by
    obtain ⟨a', e', hc⟩ := h.at_ 0 h0
    rw [e] at e'
    cases e'
    have := cell_in hc
    rw [block_add] at this
    exact this⟩
theorem BysB.below {w w' : World} {B : Nat} {A : Option Addr} {n : Nat} {zs : List Int} (h : BysB w B A n zs) (hb : Below B w w') : BysB w' B A n zs :=
  ⟨⟨h.1.len, h.1.rng, fun i hi => by
    obtain ⟨a, e, hc⟩ := h.1.at_ i hi
    exact ⟨a, e, (hb.cell (by rw [block_add]; exact h.2 a e (by omega))).trans hc⟩⟩, h.2⟩
theorem Bys.byte {w : World} {A : Option Addr} {n : Nat} {zs : List Int} (h : Bys w A n zs) (i : Nat) (hi : i < n) : 0 ≤ zs.getD i 0 ∧ zs.getD i 0 ≤ 255 := by
  have hl : i < zs.length := by have := h.len; omega
  simp only [List.getD, List.getElem?_eq_getElem hl, Option.getD_some]
  exact h.rng _ (List.getElem_mem hl)
/-- a stretch of them -/
def cutA (A : Option Addr) (cap at' : Nat) : Option Addr := if cap = at' then A else A.map (·.add at')
theorem Bys.cut {w : World} {A : Option Addr} {N cap : Nat} {zs : List Int} (h : Bys w A N zs) (at' n : Nat) (hn : at' + n ≤ N) (hc : N ≤ cap) :
    Bys w (cutA A cap at') n ((zs.drop at').take n) := by
  refine ⟨by have := h.len; simp; omega, fun z hz => h.rng z (List.mem_of_mem_drop (List.mem_of_mem_take hz)), fun i hi => ?_⟩
  obtain ⟨a, e, hcell⟩ := h.at_ (at' + i) (by omega)
  unfold cutA
  rw [if_neg (by omega), e]
  refine ⟨a.add at', rfl, ?_⟩
  rw [add_add', hcell]
  simp [List.getD, List.getElem?_drop, hi]
theorem cutA_eq (A : Option Addr) (at' : Nat) : cutA A at' at' = A := by unfold cutA; rw [if_pos rfl]
theorem cutA_ne {A : Option Addr} {cap at' : Nat} (h : cap ≠ at') : cutA A cap at' = A.map (·.add at') := by unfold cutA; rw [if_neg h]

/-- a reader at its input: not its nesting -/
structure Rd (w : World) (p : Nat) (A : Option Addr) (N cap at' : Nat) : Prop where
  inp : w.cell? ⟨p, 2, none⟩ = some (.slice A N cap)
  pos : w.cell? ⟨p, 3, none⟩ = some (.int .i64 at')
  fr : w.frozen? ⟨p, 3, none⟩ = false
  hcap : N ≤ cap
  hcm : cap ≤ 9223372036854775807
  hN : N ≤ 1000000000000
  hat : at' ≤ N

set_option maxHeartbeats 1000000 in
theorem tak_no (p : Nat) (A : Option Addr) (N cap at' : Nat) (n : Int) (w : World) (h : Rd w p A N cap at') (hn : (N : Int) < at' + n) (hn1 : n ≤ 18446744073709551615) :
    Calls Tryd.prog 66 #[.pointer (some ⟨p, 0, none⟩), .int .u64 n] w fun e w' => e = .returned (.tuple #[.slice none 0 0, .bool false]) ∧ ∃ m, w.drewN m = w' := by
  obtain ⟨h2, h3, _, _, _, hN, hat⟩ := h
  have k1 : ((N : Int) - (at' : Int)) < (n : Int) := by omega
  go_enter Tryd.func66, Tryd.ntmps66
  go_wp2_with fail
  go_quiet (fail)
  go_wp2
  go_ret2
  exact ⟨rfl, _, rfl⟩

theorem Rd.moved {w : World} {p : Nat} {A : Option Addr} {N cap at' : Nat} (h : Rd w p A N cap at') (m n : Nat) (hn : at' + n ≤ N) :
    RF p w ((w.drewN m).setCell ⟨p, 3, none⟩ (.int .i64 ((at' + n : Nat) : Int))) ∧ Rd ((w.drewN m).setCell ⟨p, 3, none⟩ (.int .i64 ((at' + n : Nat) : Int))) p A N cap (at' + n) :=
  ⟨RF.pos _ _ _ _, by rw [World.cell?_setCell_other _ _ _ _ (by simp)]; exact h.inp, World.cell?_setCell_same _ _ _ h.pos, by rw [World.frozen?_setCell]; exact h.fr, h.hcap, h.hcm, h.hN, hn⟩

set_option maxHeartbeats 1000000 in
theorem tak_yes (p : Nat) (A : Option Addr) (N cap at' n : Nat) (w : World) (h : Rd w p A N cap at') (hn : at' + n ≤ N) :
    Calls Tryd.prog 66 #[.pointer (some ⟨p, 0, none⟩), .int .u64 n] w fun e w' => e = .returned (.tuple #[.slice (cutA A cap at') n (cap - at'), .bool true]) ∧ RF p w w' ∧ Rd w' p A N cap (at' + n) := by
  have HM := Lib.hid (fun m => h.moved m n hn)
  have hm2 := fun m => h.moved m n hn
  rw [Int.natCast_add] at hm2
  have HM2 := Lib.hid hm2
  clear hm2
  obtain ⟨h2, h3, hf, hcap, hcm, hN, hat⟩ := h
  have k1 : ¬ ((N : Int) - (at' : Int)) < (n : Int) := by omega
  have k2 : (at' : Int) + (n : Int) ≤ (cap : Int) := by omega
  by_cases k3 : cap = at'
  · subst k3
    have hn0 : n = 0 := by omega
    subst hn0
    rw [cutA_eq]
    go_enter Tryd.func66, Tryd.ntmps66
    go_wp2_with fail
    go_quiet (fail)
    go_wp2_with fail
    go_quiet (fail)
    go_wp2
    go_ret2
    refine ⟨?_, HM.out _⟩
    show Ending.returned (.tuple #[.slice A 0 0, .bool true]) = _
    rw [Nat.sub_self]
  · rw [cutA_ne k3]
    go_enter Tryd.func66, Tryd.ntmps66
    go_wp2_with fail
    go_quiet (fail)
    go_wp2_with fail
    go_quiet (fail)
    go_wp2
    go_ret2
    refine ⟨?_, HM2.out _⟩
    show Ending.returned (.tuple #[.slice (Option.map (fun x => x.add at') A) (at' + n - at') (cap - at'), .bool true]) = _
    rw [Nat.add_sub_cancel_left]

theorem Rd.keep {w w' : World} {p : Nat} {A : Option Addr} {N cap at' : Nat} (h : Rd w p A N cap at') (hb : Below w.heap.size w w') : Rd w' p A N cap at' := by
  have hp := cell_in h.pos
  exact ⟨(hb.cell (p := ⟨p, 2, none⟩) hp).trans h.inp, (hb.cell (p := ⟨p, 3, none⟩) hp).trans h.pos, (hb.frozen (p := ⟨p, 3, none⟩) hp).trans h.fr, h.hcap, h.hcm, h.hN, h.hat⟩
end Go.Proofs.YtepinmeidjlmmaaDoor

/- A reader over any bytes: an argument that follows its first byte. -/
namespace Go.Proofs.YtepinmeidjlmmaaDoor
open Go.RowKit
set_option maxRecDepth 100000

/-- a number out of its bytes, the most significant one first -/
def beV : List Int → Int
  | [] => 0
  | x :: r => x * 256 ^ r.length + beV r
def beTo (ys : List Int) (k : Nat) : Int := (ys.take k).foldl (fun n x => n * 256 + x) 0
theorem beTo_succ {ys : List Int} {k : Nat} (h : k < ys.length) : beTo ys (k + 1) = beTo ys k * 256 + ys.getD k 0 := by
  unfold beTo
  rw [List.take_succ_eq_append_getElem h, List.foldl_append]
  simp [List.getD, List.getElem?_eq_getElem h]
theorem beTo_bd (ys : List Int) (hr : ∀ z ∈ ys, 0 ≤ z ∧ z ≤ 255) : ∀ k, k ≤ ys.length → 0 ≤ beTo ys k ∧ beTo ys k < 256 ^ k
  | 0, _ => by simp [beTo]
  | k + 1, h => by
    have ih := beTo_bd ys hr k (by omega)
    rw [beTo_succ (by omega)]
    have hx : 0 ≤ ys.getD k 0 ∧ ys.getD k 0 ≤ 255 := by
      simp only [List.getD, List.getElem?_eq_getElem (show k < ys.length by omega), Option.getD_some]
      exact hr _ (List.getElem_mem _)
    have hp : (256 : Int) ^ (k + 1) = 256 ^ k * 256 := Int.pow_succ _ _
    rw [hp]
    generalize beTo ys k = n at *
    generalize (256 : Int) ^ k = P at *
    omega
theorem or_step (n x : Int) (h0 : 0 ≤ n) (h1 : n < 72057594037927936) (hx0 : 0 ≤ x) (hx1 : x ≤ 255) : bits .or .u64 (IntKind.u64.wrap (n * 256)) x = n * 256 + x := by
  obtain ⟨N, rfl⟩ := Int.eq_ofNat_of_zero_le h0
  obtain ⟨X, rfl⟩ := Int.eq_ofNat_of_zero_le hx0
  have hw : IntKind.u64.wrap ((N : Int) * 256) = ((N * 256 : Nat) : Int) := by rw [IntKind.wrap_u64]; omega
  rw [hw]
  show IntKind.u64.wrap ((BitVec.ofInt 64 ((N * 256 : Nat) : Int) ||| BitVec.ofInt 64 (X : Int)).toNat : Int) = _
  rw [BitVec.ofInt_natCast, BitVec.ofInt_natCast, BitVec.toNat_or, BitVec.toNat_ofNat, BitVec.toNat_ofNat, Nat.mod_eq_of_lt (by omega), Nat.mod_eq_of_lt (by omega)]
  have e : N * 256 ||| X = N * 256 + X := by
    have := Nat.two_pow_add_eq_or_of_lt (i := 8) (show X < 2 ^ 8 by omega) N
    rw [show 2 ^ 8 * N = N * 256 by omega] at this
    exact this.symm
  rw [e, IntKind.wrap_u64]
  omega
def widE (ys : List Int) (size : Nat) : Int × Int := if argSz (beTo ys size) = (size : Int) then (beTo ys size, 0) else (0, 2)
theorem wid_ok {ys : List Int} {size : Nat} (h : argSz (beTo ys size) = (size : Int)) : widE ys size = (beTo ys size, 0) := by unfold widE; rw [if_pos h]
theorem wid_bad {ys : List Int} {size : Nat} (h : ¬ argSz (beTo ys size) = (size : Int)) : widE ys size = (0, 2) := by unfold widE; rw [if_neg h]

set_option maxHeartbeats 1000000 in
theorem wide_short (p : Nat) (A : Option Addr) (N cap at' size : Nat) (w : World) (h : Rd w p A N cap at') (hs : size ≤ 8) (hn : N < at' + size) :
    Calls Tryd.prog 81 #[.pointer (some ⟨p, 0, none⟩), .int .i64 size] w fun e w' => e = .returned (.tuple #[.int .u64 0, .int .i64 1]) ∧ ∃ m, w.drewN m = w' := by
  have HT := Lib.hid (tak_no p A N cap at' (size : Int) w h (by omega) (by omega))
  clear h
  go_enter Tryd.func81, Tryd.ntmps81
  go_wp2_with (go_at_call 66; refine HT.out.mono ?_; rintro e w' ⟨rfl, m, rfl⟩)
  go_ret2
  exact ⟨rfl, m, rfl⟩

set_option maxHeartbeats 1000000 in
theorem wide_full (p : Nat) (A : Option Addr) (N cap at' size : Nat) (zs : List Int) (w : World) (h : Rd w p A N cap at') (hb : BysB w p A N zs) (hs : size ≤ 8) (hn : at' + size ≤ N) :
    Calls Tryd.prog 81 #[.pointer (some ⟨p, 0, none⟩), .int .i64 size] w fun e w' => e = .returned (.tuple #[.int .u64 (widE ((zs.drop at').take size) size).1, .int .i64 (widE ((zs.drop at').take size) size).2]) ∧ RF p w w' ∧ Rd w' p A N cap (at' + size) := by
  have HT := Lib.hid (tak_yes p A N cap at' size w h hn)
  have hp := cell_in h.pos
  have HB := Lib.hid hb
  have hcut := fun (W : World) (hW : RF p w W) => (hb.below (hW.below (Nat.le_of_lt hp))).1.cut at' size hn h.hcap
  have HC := Lib.hid hcut
  clear h hb hcut
  generalize hys : (zs.drop at').take size = ys at *
  have hlen : ys.length = size := by have := HB.out.1.len; rw [← hys]; simp; omega
  have hrng : ∀ z ∈ ys, 0 ≤ z ∧ z ≤ 255 := by rw [← hys]; exact fun z hz => HB.out.1.rng z (List.mem_of_mem_drop (List.mem_of_mem_take hz))
  have HBD := Lib.hid (beTo_bd ys hrng)
  clear hys hrng
  go_enter Tryd.func81, Tryd.ntmps81
  go_wp2_with (go_at_call 66; refine HT.out.mono ?_; rintro e w' ⟨rfl, hrf, hrd⟩)
  have HY := Lib.hid (HC.out w' hrf)
  have HR := Lib.hid hrf
  have HD := Lib.hid hrd
  clear hrf hrd
  generalize cutA A cap at' = A2 at *
  have HL := Lib.hid hlen
  clear hlen
  go_loop [4, 21] (fun n i => ∃ k : Nat, k ≤ size ∧ i = .int .i64 k ∧ n = .int .u64 (beTo ys k)) (fun _ i => size - (intOf i).toNat)
  case atStart => exact ⟨0, by omega, rfl, rfl⟩
  case round =>
    obtain ⟨k, hk, rfl, rfl⟩ := hrel
    by_cases hlt : k < size
    · obtain ⟨a, rfl, hc⟩ := HY.out.at_ k hlt
      obtain ⟨x0, x1⟩ := HY.out.byte k hlt
      have hsu := beTo_succ (ys := ys) (k := k) (by have := HL.out; omega)
      have hbd := HBD.out k (by have := HL.out; omega)
      have hp56 : (256 : Int) ^ k ≤ 72057594037927936 := by
        have h7 : k = 0 ∨ k = 1 ∨ k = 2 ∨ k = 3 ∨ k = 4 ∨ k = 5 ∨ k = 6 ∨ k = 7 := by omega
        rcases h7 with rfl | rfl | rfl | rfl | rfl | rfl | rfl | rfl <;> decide
      have hb1 : 0 ≤ beTo ys k ∧ beTo ys k < 72057594037927936 := by omega
      generalize ys.getD k 0 = x at *
      generalize beTo ys k = n at *
      have HS := Lib.hid hsu
      have HB1 := Lib.hid hb1
      clear hsu hbd hp56 hb1
      go_wp2
      go_round
      case rel => exact ⟨k + 1, by omega, by go_num, by rw [or_step n x HB1.out.1 HB1.out.2 x0 x1, HS.out]⟩
      case measure => (simp [intOf] <;> omega)
    · have hkn : k = size := by omega
      subst hkn
      have HA := Lib.hid (fun (W : World) => argSz_any (beTo ys k) W)
      by_cases hgood : argSz (beTo ys k) = (k : Int)
      · have HW := Lib.hid (wid_ok hgood)
        have hne : (argSz (beTo ys k) != (k : Int)) = false := by simp [hgood]
        generalize beTo ys k = n at *
        generalize hz : argSz n = z at *
        have HZ := Lib.hid hz
        have HG := Lib.hid hgood
        clear hz hgood
        go_wp2_with (go_at_call 75; refine (HA.out _).mono ?_; rintro e w9 ⟨rfl, rfl⟩)
        go_ret2
        exact ⟨by rw [HW.out]; rfl, HR.out, HD.out⟩
      · have HW := Lib.hid (wid_bad hgood)
        have hne : (argSz (beTo ys k) != (k : Int)) = true := by simp [hgood]
        generalize beTo ys k = n at *
        generalize hz : argSz n = z at *
        have HZ := Lib.hid hz
        clear hz hgood
        go_wp2_with (go_at_call 75; refine (HA.out _).mono ?_; rintro e w9 ⟨rfl, rfl⟩)
        go_ret2
        exact ⟨by rw [HW.out]; rfl, HR.out, HD.out⟩
end Go.Proofs.YtepinmeidjlmmaaDoor

/- A reader over any bytes: the head of an item. -/
namespace Go.Proofs.YtepinmeidjlmmaaDoor
open Go.RowKit
set_option maxRecDepth 100000

theorem and31 (x : Int) (h0 : 0 ≤ x) (h1 : x ≤ 255) : bits .and .u8 x 31 = x % 32 := by
  have key : ∀ a : Fin 256, bits BinOp.and IntKind.u8 ((a.val : Nat) : Int) 31 = ((a.val : Nat) : Int) % 32 := by decide +kernel
  have := key ⟨x.toNat, by omega⟩
  simpa [Int.toNat_of_nonneg h0] using this
theorem getD_drop (zs : List Int) (a i : Nat) : (zs.drop a).getD i 0 = zs.getD (a + i) 0 := by simp [List.getD, List.getElem?_drop]

abbrev HeadV (k n e : Int) : Ending := .returned (.tuple #[.int .i64 k, .int .u64 n, .int .i64 e])

set_option maxHeartbeats 1000000 in
theorem hed_short (p : Nat) (A : Option Addr) (N cap : Nat) (w : World) (h : Rd w p A N cap N) :
    Calls Tryd.prog 64 #[.pointer (some ⟨p, 0, none⟩)] w fun e w' => e = HeadV 0 0 1 ∧ RF p w w' := by
  have HT := Lib.hid (tak_no p A N cap N 1 w h (by omega) (by omega))
  clear h
  go_enter Tryd.func64, Tryd.ntmps64
  go_wp2_with (go_at_call 66; refine HT.out.mono ?_; rintro e w' ⟨rfl, m, rfl⟩)
  go_ret3
  refine ⟨rfl, ?_⟩
  exact ⟨rfl, rfl, rfl, Nat.le_refl _, fun _ _ _ => rfl, fun _ _ => rfl, fun _ => rfl⟩

/-- what a byte at the reader's place is good for -/
structure One (w : World) (p : Nat) (A : Option Addr) (N cap at' : Nat) (x : Int) (zs : List Int) : Prop where
  rd : Rd w p A N cap at'
  by_ : BysB w p A N zs
  lt : at' < N
  x0 : 0 ≤ x
  x1 : x ≤ 255
  at_ : zs.getD at' 0 = x
theorem One.take {w : World} {p : Nat} {A : Option Addr} {N cap at' : Nat} {x : Int} {zs : List Int} (h : One w p A N cap at' x zs) :
    Calls Tryd.prog 66 #[.pointer (some ⟨p, 0, none⟩), .int .u64 1] w fun e w' => (∃ a, e = .returned (.tuple #[.slice (some a) 1 (cap - at'), .bool true]) ∧ w'.cell? a = some (.int .u8 x)) ∧ RF p w w' ∧ Rd w' p A N cap (at' + 1) := by
  have hp := cell_in h.rd.pos
  refine (tak_yes p A N cap at' 1 w h.rd h.lt).mono ?_
  rintro e w' ⟨rfl, hr, hd⟩
  refine ⟨?_, hr, hd⟩
  have hc := (h.by_.below (hr.below (Nat.le_of_lt hp))).1.cut at' 1 h.lt h.rd.hcap
  obtain ⟨a, e, hcell⟩ := hc.at_ 0 (by omega)
  refine ⟨a, by rw [e], ?_⟩
  have e1 : a.add 0 = a := by unfold Addr.add; rw [if_pos rfl]
  rw [e1] at hcell
  rw [hcell]
  have : ((zs.drop at').take 1).getD 0 0 = x := by
    rw [← h.at_]
    simp [List.getD, List.getElem?_drop]
  rw [this]

set_option maxHeartbeats 1000000 in
theorem hed_one (p : Nat) (A : Option Addr) (N cap at' : Nat) (x : Int) (zs : List Int) (w : World) (h : One w p A N cap at' x zs) (hx : x = 244 ∨ x = 245 ∨ x = 246) :
    Calls Tryd.prog 64 #[.pointer (some ⟨p, 0, none⟩)] w fun e w' => e = HeadV (if x = 246 then 8 else 7) (if x = 245 then 1 else 0) 0 ∧ RF p w w' ∧ Rd w' p A N cap (at' + 1) := by
  have HT := Lib.hid h.take
  clear h
  rcases hx with rfl | rfl | rfl
  all_goals
    go_enter Tryd.func64, Tryd.ntmps64
    go_wp2_with (go_at_call 66; refine HT.out.mono ?_; rintro e w' ⟨⟨a, rfl, hc⟩, hr, hd⟩)
    go_ret3
    exact ⟨rfl, hr, hd⟩

set_option maxHeartbeats 1000000 in
theorem hed_bad (p : Nat) (A : Option Addr) (N cap at' : Nat) (x m l : Int) (zs : List Int) (w : World) (h : One w p A N cap at' x zs) (hx : x ≠ 244 ∧ x ≠ 245 ∧ x ≠ 246) (hm : x / 32 = m) (hl : x % 32 = l) (hbad : 6 < 1 + m ∨ 27 < l) :
    Calls Tryd.prog 64 #[.pointer (some ⟨p, 0, none⟩)] w fun e w' => e = HeadV 0 0 2 ∧ RF p w w' := by
  have HT := Lib.hid h.take
  have q0 := h.x0
  have q1 := h.x1
  have ha := and31 x h.x0 h.x1
  rw [hl] at ha
  have m0 : 0 ≤ m ∧ m ≤ 7 := by omega
  have l0 : 0 ≤ l ∧ l ≤ 31 := by omega
  have y1 : (x == 244) = false := by simp; omega
  have y2 : (x == 245) = false := by simp; omega
  have y3 : (x == 246) = false := by simp; omega
  clear h hx hl
  by_cases h6 : 6 < 1 + m
  · clear hbad
    go_enter Tryd.func64, Tryd.ntmps64
    go_wp2_with (go_at_call 66; refine HT.out.mono ?_; rintro e w' ⟨⟨a, rfl, hc⟩, hr, hd⟩)
    go_ret3
    exact ⟨rfl, hr⟩
  · have h27 : 27 < l := by omega
    clear hbad
    go_enter Tryd.func64, Tryd.ntmps64
    go_wp2_with (go_at_call 66; refine HT.out.mono ?_; rintro e w' ⟨⟨a, rfl, hc⟩, hr, hd⟩)
    go_ret3
    exact ⟨rfl, hr⟩

set_option maxHeartbeats 1000000 in
theorem hed_low (p : Nat) (A : Option Addr) (N cap at' : Nat) (x m l : Int) (zs : List Int) (w : World) (h : One w p A N cap at' x zs) (hm : x / 32 = m) (hl : x % 32 = l) (h6 : m ≤ 5) (h24 : l < 24) :
    Calls Tryd.prog 64 #[.pointer (some ⟨p, 0, none⟩)] w fun e w' => e = HeadV (1 + m) l 0 ∧ RF p w w' ∧ Rd w' p A N cap (at' + 1) := by
  have HT := Lib.hid h.take
  have q0 := h.x0
  have q1 := h.x1
  have ha := and31 x h.x0 h.x1
  rw [hl] at ha
  have m0 : 0 ≤ m ∧ m ≤ 7 := by omega
  have l0 : 0 ≤ l ∧ l ≤ 31 := by omega
  have y1 : (x == 244) = false := by simp; omega
  have y2 : (x == 245) = false := by simp; omega
  have y3 : (x == 246) = false := by simp; omega
  have h66 : ¬ 6 < 1 + m := by omega
  have h27 : ¬ 27 < l := by omega
  clear h hl
  go_enter Tryd.func64, Tryd.ntmps64
  go_wp2_with (go_at_call 66; refine HT.out.mono ?_; rintro e w' ⟨⟨a, rfl, hc⟩, hr, hd⟩)
  go_ret3
  exact ⟨rfl, hr, hd⟩

set_option maxHeartbeats 1000000 in
theorem hed_wshort (p : Nat) (A : Option Addr) (N cap at' : Nat) (x m : Int) (j : Nat) (zs : List Int) (w : World) (h : One w p A N cap at' x zs) (hm : x / 32 = m) (hl : x % 32 = 24 + j) (h6 : m ≤ 5) (hj : j < 4) (hN : N < at' + 1 + 2 ^ j) :
    Calls Tryd.prog 64 #[.pointer (some ⟨p, 0, none⟩)] w fun e w' => e = HeadV 0 0 1 ∧ RF p w w' := by
  have HT := Lib.hid h.take
  have q0 := h.x0
  have q1 := h.x1
  have ha := and31 x h.x0 h.x1
  rw [hl] at ha
  have m0 : 0 ≤ m ∧ m ≤ 7 := by omega
  have y1 : (x == 244) = false := by simp; omega
  have y2 : (x == 245) = false := by simp; omega
  have y3 : (x == 246) = false := by simp; omega
  have h66 : ¬ 6 < 1 + m := by omega
  clear h hl
  have h4 : j = 0 ∨ j = 1 ∨ j = 2 ∨ j = 3 := by omega
  rcases h4 with rfl | rfl | rfl | rfl
  all_goals
    have HW := Lib.hid (fun (W : World) (hW : Rd W p A N cap (at' + 1)) => wide_short p A N cap (at' + 1) _ W hW (by decide) hN)
    go_enter Tryd.func64, Tryd.ntmps64
    go_wp2_with (first | (go_at_call 66; refine HT.out.mono ?_; rintro e w' ⟨⟨a, rfl, hc⟩, hr, hd⟩) | (go_at_call 81; refine (HW.out _ hd).mono ?_; rintro e w9 ⟨rfl, k, rfl⟩))
    go_ret3
    exact ⟨rfl, hr.trans ⟨rfl, rfl, rfl, Nat.le_refl _, fun _ _ _ => rfl, fun _ _ => rfl, fun _ => rfl⟩⟩

/-- the argument of size bytes that follows the place at' -/
def widN (zs : List Int) (at' size : Nat) : Int := beTo ((zs.drop (at' + 1)).take size) size
set_option maxHeartbeats 1000000 in
theorem hed_wbad (p : Nat) (A : Option Addr) (N cap at' : Nat) (x m : Int) (j : Nat) (zs : List Int) (w : World) (h : One w p A N cap at' x zs) (hm : x / 32 = m) (hl : x % 32 = 24 + j) (h6 : m ≤ 5) (hj : j < 4) (hN : at' + 1 + 2 ^ j ≤ N)
    (hbad : ¬ argSz (widN zs at' (2 ^ j)) = ((2 ^ j : Nat) : Int)) :
    Calls Tryd.prog 64 #[.pointer (some ⟨p, 0, none⟩)] w fun e w' => e = HeadV 0 0 2 ∧ RF p w w' := by
  have HT := Lib.hid h.take
  have q0 := h.x0
  have q1 := h.x1
  have hp := cell_in h.rd.pos
  have HBy := Lib.hid (fun (W : World) (hW : RF p w W) => h.by_.below (hW.below (Nat.le_of_lt hp)))
  have ha := and31 x h.x0 h.x1
  rw [hl] at ha
  have m0 : 0 ≤ m ∧ m ≤ 7 := by omega
  have y1 : (x == 244) = false := by simp; omega
  have y2 : (x == 245) = false := by simp; omega
  have y3 : (x == 246) = false := by simp; omega
  have h66 : ¬ 6 < 1 + m := by omega
  clear h hl hp
  have h4 : j = 0 ∨ j = 1 ∨ j = 2 ∨ j = 3 := by omega
  rcases h4 with rfl | rfl | rfl | rfl
  all_goals
    have hwe := wid_bad hbad
    have HW := Lib.hid (fun (W : World) (hW : Rd W p A N cap (at' + 1)) (hB : BysB W p A N zs) => wide_full p A N cap (at' + 1) _ zs W hW hB (by decide) hN)
    rw [hwe] at HW
    clear hwe hbad
    go_enter Tryd.func64, Tryd.ntmps64
    go_wp2_with (first | (go_at_call 66; refine HT.out.mono ?_; rintro e w' ⟨⟨a, rfl, hc⟩, hr, hd⟩; have HR := Lib.hid hr; have HD := Lib.hid hd; clear hr hd) | (go_at_call 81; refine (HW.out _ HD.out (HBy.out _ HR.out)).mono ?_; rintro e w9 ⟨rfl, hr9, hd9⟩))
    go_ret3
    exact ⟨rfl, HR.out.trans hr9⟩
set_option maxHeartbeats 1000000 in
theorem hed_wide (p : Nat) (A : Option Addr) (N cap at' : Nat) (x m : Int) (j : Nat) (zs : List Int) (w : World) (h : One w p A N cap at' x zs) (hm : x / 32 = m) (hl : x % 32 = 24 + j) (h6 : m ≤ 5) (hj : j < 4) (hN : at' + 1 + 2 ^ j ≤ N)
    (hok : argSz (widN zs at' (2 ^ j)) = ((2 ^ j : Nat) : Int)) :
    Calls Tryd.prog 64 #[.pointer (some ⟨p, 0, none⟩)] w fun e w' => e = HeadV (1 + m) (widN zs at' (2 ^ j)) 0 ∧ RF p w w' ∧ Rd w' p A N cap (at' + 1 + 2 ^ j) := by
  have HT := Lib.hid h.take
  have q0 := h.x0
  have q1 := h.x1
  have hp := cell_in h.rd.pos
  have HBy := Lib.hid (fun (W : World) (hW : RF p w W) => h.by_.below (hW.below (Nat.le_of_lt hp)))
  have ha := and31 x h.x0 h.x1
  rw [hl] at ha
  have m0 : 0 ≤ m ∧ m ≤ 7 := by omega
  have y1 : (x == 244) = false := by simp; omega
  have y2 : (x == 245) = false := by simp; omega
  have y3 : (x == 246) = false := by simp; omega
  have h66 : ¬ 6 < 1 + m := by omega
  clear h hl hp
  have h4 : j = 0 ∨ j = 1 ∨ j = 2 ∨ j = 3 := by omega
  rcases h4 with rfl | rfl | rfl | rfl
  all_goals
    have hwe := wid_ok hok
    have HW := Lib.hid (fun (W : World) (hW : Rd W p A N cap (at' + 1)) (hB : BysB W p A N zs) => wide_full p A N cap (at' + 1) _ zs W hW hB (by decide) hN)
    rw [hwe] at HW
    clear hwe hok
    go_enter Tryd.func64, Tryd.ntmps64
    go_wp2_with (first | (go_at_call 66; refine HT.out.mono ?_; rintro e w' ⟨⟨a, rfl, hc⟩, hr, hd⟩; have HR := Lib.hid hr; have HD := Lib.hid hd; clear hr hd) | (go_at_call 81; refine (HW.out _ HD.out (HBy.out _ HR.out)).mono ?_; rintro e w9 ⟨rfl, hr9, hd9⟩))
    go_ret3
    exact ⟨rfl, HR.out.trans hr9, hd9⟩
end Go.Proofs.YtepinmeidjlmmaaDoor

/- A reader over any bytes: the head as one contract. -/
namespace Go.Proofs.YtepinmeidjlmmaaDoor
open Go.RowKit
set_option maxRecDepth 100000

theorem nestAt.rf {w w' : World} {base p c : Nat} {s : List Lv} {v : Value} (h : nestAt w base p c s v) (hr : RF p w w') : nestAt w' base p c s v := by
  refine ⟨(hr.cell 0 (by omega)).trans h.cnt, (hr.cell 1 (by omega)).trans h.lv, (hr.frz 0).trans h.fr0, (hr.frz 1).trans h.fr1, ?_, h.lt, Nat.le_trans h.hb hr.size, h.len, h.c512, h.ok⟩
  refine ⟨h.own.1, ?_⟩
  rcases h.own.2 with h0 | ⟨g, cap, cur, hv, hg, hh, hc⟩
  · exact .inl h0
  · refine .inr ⟨g, cap, cur, hv, hg, ?_, hc⟩
    rw [hr.block g (lt_of_heap hh) (by have := h.lt; omega), hh]

/-- a reader and its nesting -/
structure RdS (w : World) (p base c : Nat) (s : List Lv) (A : Option Addr) (N cap at' : Nat) (zs : List Int) : Prop where
  nest : ∃ v, nestAt w base p c s v
  rd : Rd w p A N cap at'
  by_ : BysB w p A N zs
  tabs : Tabs w
  p4 : 4 ≤ p
theorem RdS.plt {w : World} {p base c : Nat} {s : List Lv} {A : Option Addr} {N cap at' : Nat} {zs : List Int} (h : RdS w p base c s A N cap at' zs) : p < w.heap.size := cell_in h.rd.pos
theorem RdS.rf {w w' : World} {p base c : Nat} {s : List Lv} {A : Option Addr} {N cap at' at2 : Nat} {zs : List Int} (h : RdS w p base c s A N cap at' zs) (hr : RF p w w') (hd : Rd w' p A N cap at2) : RdS w' p base c s A N cap at2 zs := by
  obtain ⟨v, hv⟩ := h.nest
  have hb := hr.below (Nat.le_of_lt h.plt)
  exact ⟨⟨v, hv.rf hr⟩, hd, h.by_.below hb, h.tabs.below hb h.p4, h.p4⟩
theorem RdS.keep {w w' : World} {p base c : Nat} {s : List Lv} {A : Option Addr} {N cap at' : Nat} {zs : List Int} (h : RdS w p base c s A N cap at' zs) (hb : Below w.heap.size w w') : RdS w' p base c s A N cap at' zs := by
  obtain ⟨v, hv⟩ := h.nest
  exact ⟨⟨v, hv.later hb⟩, h.rd.keep hb, h.by_.below (hb.mono (Nat.le_of_lt h.plt)), h.tabs.later hb, h.p4⟩
theorem RF.of_below {p : Nat} {w w' : World} (hb : Below w.heap.size w w') (hp : p < w.heap.size) : RF p w w' :=
  ⟨hb.os, hb.tape, hb.output, hb.size, fun k hk _ => hb.block k hk, fun j _ => hb.cell (p := ⟨p, j, none⟩) hp, fun j => hb.frozen (p := ⟨p, j, none⟩) hp⟩

/-- kind, argument, error and the place behind the head at a -/
def headE (zs : List Int) (N a : Nat) : Int × Int × Int × Nat :=
  if N ≤ a then (0, 0, 1, a)
  else if zs.getD a 0 = 244 ∨ zs.getD a 0 = 245 ∨ zs.getD a 0 = 246 then (if zs.getD a 0 = 246 then 8 else 7, if zs.getD a 0 = 245 then 1 else 0, 0, a + 1)
  else if 6 < 1 + zs.getD a 0 / 32 ∨ 27 < zs.getD a 0 % 32 then (0, 0, 2, a)
  else if zs.getD a 0 % 32 < 24 then (1 + zs.getD a 0 / 32, zs.getD a 0 % 32, 0, a + 1)
  else if N < a + 1 + 2 ^ (zs.getD a 0 % 32 - 24).toNat then (0, 0, 1, a)
  else if argSz (widN zs a (2 ^ (zs.getD a 0 % 32 - 24).toNat)) = ((2 ^ (zs.getD a 0 % 32 - 24).toNat : Nat) : Int) then (1 + zs.getD a 0 / 32, widN zs a (2 ^ (zs.getD a 0 % 32 - 24).toNat), 0, a + 1 + 2 ^ (zs.getD a 0 % 32 - 24).toNat)
  else (0, 0, 2, a)

def HeadP (p : Nat) (A : Option Addr) (N cap : Nat) (h : Int × Int × Int × Nat) (w : World) (e : Ending) (w' : World) : Prop :=
  e = HeadV h.1 h.2.1 h.2.2.1 ∧ RF p w w' ∧ (h.2.2.1 = 0 → Rd w' p A N cap h.2.2.2)

theorem hed_any (p : Nat) (A : Option Addr) (N cap a : Nat) (zs : List Int) (w : World) (h : Rd w p A N cap a) (hb : BysB w p A N zs) :
    Calls Tryd.prog 64 #[.pointer (some ⟨p, 0, none⟩)] w (HeadP p A N cap (headE zs N a) w) := by
  unfold headE
  by_cases hN : N ≤ a
  · rw [if_pos hN]
    have hE : a = N := by have := h.hat; omega
    subst hE
    exact (hed_short p A a cap w h).mono fun e w' hh => ⟨hh.1, hh.2, fun h0 => by cases h0⟩
  rw [if_neg hN]
  have hby := hb.1.byte a (by omega)
  have ho : One w p A N cap a (zs.getD a 0) zs := ⟨h, hb, by omega, hby.1, hby.2, rfl⟩
  generalize zs.getD a 0 = x at *
  by_cases hx : x = 244 ∨ x = 245 ∨ x = 246
  · rw [if_pos hx]
    exact (hed_one p A N cap a x zs w ho hx).mono fun e w' hh => ⟨hh.1, hh.2.1, fun _ => hh.2.2⟩
  rw [if_neg hx]
  have hx3 : x ≠ 244 ∧ x ≠ 245 ∧ x ≠ 246 := by omega
  by_cases hbad : 6 < 1 + x / 32 ∨ 27 < x % 32
  · rw [if_pos hbad]
    exact (hed_bad p A N cap a x _ _ zs w ho hx3 rfl rfl hbad).mono fun e w' hh => ⟨hh.1, hh.2, fun h0 => by cases h0⟩
  rw [if_neg hbad]
  by_cases hlow : x % 32 < 24
  · rw [if_pos hlow]
    exact (hed_low p A N cap a x _ _ zs w ho rfl rfl (by omega) hlow).mono fun e w' hh => ⟨hh.1, hh.2.1, fun _ => hh.2.2⟩
  rw [if_neg hlow]
  obtain ⟨j, hj⟩ : ∃ j : Nat, x % 32 - 24 = j := ⟨(x % 32 - 24).toNat, by omega⟩
  rw [hj, Int.toNat_natCast]
  by_cases hsh : N < a + 1 + 2 ^ j
  · rw [if_pos hsh]
    exact (hed_wshort p A N cap a x _ j zs w ho rfl (by omega) (by omega) (by omega) hsh).mono fun e w' hh => ⟨hh.1, hh.2, fun h0 => by cases h0⟩
  rw [if_neg hsh]
  by_cases hok : argSz (widN zs a (2 ^ j)) = ((2 ^ j : Nat) : Int)
  · rw [if_pos hok]
    exact (hed_wide p A N cap a x _ j zs w ho rfl (by omega) (by omega) (by omega) (by omega) hok).mono fun e w' hh => ⟨hh.1, hh.2.1, fun _ => hh.2.2⟩
  · rw [if_neg hok]
    exact (hed_wbad p A N cap a x _ j zs w ho rfl (by omega) (by omega) (by omega) (by omega) hok).mono fun e w' hh => ⟨hh.1, hh.2, fun h0 => by cases h0⟩

/-- what a head without error is like -/
theorem head_ok {zs : List Int} {N a : Nat} (hr : ∀ z ∈ zs, 0 ≤ z ∧ z ≤ 255) (hl : zs.length = N) {k n : Int} {a2 : Nat} (h : headE zs N a = (k, n, 0, a2)) :
    1 ≤ k ∧ k ≤ 8 ∧ 0 ≤ n ∧ n ≤ 18446744073709551615 ∧ (k = 7 → n ≤ 1) ∧ (k = 8 → n = 0) ∧ a < a2 ∧ a2 ≤ N := by
  unfold headE at h
  by_cases hN : N ≤ a
  · rw [if_pos hN] at h; simp at h
  rw [if_neg hN] at h
  have hby : 0 ≤ zs.getD a 0 ∧ zs.getD a 0 ≤ 255 := by
    simp only [List.getD, List.getElem?_eq_getElem (show a < zs.length by omega), Option.getD_some]
    exact hr _ (List.getElem_mem _)
  generalize zs.getD a 0 = x at *
  by_cases hx : x = 244 ∨ x = 245 ∨ x = 246
  · rw [if_pos hx] at h
    simp only [Prod.mk.injEq] at h
    obtain ⟨h1, h2, _, h4⟩ := h
    rcases hx with rfl | rfl | rfl <;> simp at h1 h2 <;> omega
  rw [if_neg hx] at h
  by_cases hbad : 6 < 1 + x / 32 ∨ 27 < x % 32
  · rw [if_pos hbad] at h; simp at h
  rw [if_neg hbad] at h
  by_cases hlow : x % 32 < 24
  · rw [if_pos hlow] at h
    simp only [Prod.mk.injEq] at h
    omega
  rw [if_neg hlow] at h
  obtain ⟨j, hj⟩ : ∃ j : Nat, x % 32 - 24 = j := ⟨(x % 32 - 24).toNat, by omega⟩
  rw [hj, Int.toNat_natCast] at h
  by_cases hsh : N < a + 1 + 2 ^ j
  · rw [if_pos hsh] at h; simp at h
  rw [if_neg hsh] at h
  by_cases hok : argSz (widN zs a (2 ^ j)) = ((2 ^ j : Nat) : Int)
  · rw [if_pos hok] at h
    simp only [Prod.mk.injEq] at h
    have hj4 : j = 0 ∨ j = 1 ∨ j = 2 ∨ j = 3 := by omega
    have hbd := beTo_bd ((zs.drop (a + 1)).take (2 ^ j)) (fun z hz => hr z (List.mem_of_mem_drop (List.mem_of_mem_take hz))) (2 ^ j) (by simp; omega)
    have hw : widN zs a (2 ^ j) = beTo ((zs.drop (a + 1)).take (2 ^ j)) (2 ^ j) := rfl
    rw [← hw] at hbd
    obtain ⟨h1, h2, _, h4⟩ := h
    rw [h2] at hbd
    rcases hj4 with rfl | rfl | rfl | rfl <;> simp at hbd h4 hsh <;> omega
  · rw [if_neg hok] at h; simp at h
end Go.Proofs.YtepinmeidjlmmaaDoor

/- A region that draws its order, walked in one order: what holds of the world may be strengthened on the way. -/
namespace Go.Proofs.YtepinmeidjlmmaaDoor
open Go.RowKit

theorem wpAnyH_mono {P : Program} {md : Region.Mode} {ops : Array Oper} {Q : Exit → Act → World → Prop} {S S' : World → Prop} (h : ∀ w, S' w → S w) :
    ∀ (fuel : Nat) (listed : Array Bool) (a : Act) (w : World), wpAnyH P md ops Q S' fuel listed a w → wpAnyH P md ops Q S fuel listed a w
  | 0, _, _, _, hh => hh
  | fuel + 1, _, _, _, hh => ⟨hh.1, fun i hi => wpOp_mono (fun a' w' h' => ⟨h w' h'.1, wpAnyH_mono h fuel _ a' w' h'.2⟩) (hh.2 i hi)⟩
/-- from here on: what has been there stays as it is -/
theorem held_from {P : Program} {md : Region.Mode} {ops : Array Oper} {Q : Exit → Act → World → Prop} {S : World → Prop} {fuel : Nat} {listed : Array Bool} {a : Act} {w : World}
    (hS : ∀ W, Below w.heap.size w W → S W) (h : wpAnyH P md ops Q (fun W => Below w.heap.size w W) fuel listed a w) : wpAnyH P md ops Q S fuel listed a w :=
  wpAnyH_mono hS fuel listed a w h
section
variable {P : Program} {md : Region.Mode} {ops : Array Oper} {Q : Exit → Act → World → Prop} {fuel : Nat} {listed : Array Bool} {a : Act} {w : World}
/-- one that may come up alone comes up: a call -/
theorem held_call {i : Nat} {o : Oper} (hr : Region.ready md ops listed = [i]) (ho : ops[i]? = some o)
    (h : ∀ K' : Act → World → Prop, Shut (∀ a w', Below w.heap.size w w' → wpAnyH P md ops Q (fun W => Below w'.heap.size w' W) fuel (listed.setIfInBounds i true) a w' → K' a w') → if Region.wanted o (yielded ops a.tmps) = true then Oper.wp P o a w K' Q else K' (a.put o.dst undef) w) :
    wpAnyH P md ops Q (fun W => Below w.heap.size w W) (fuel + 1) listed a w := by
  refine wpAnyH_all hr (by simp) fun j hj => ?_
  obtain rfl : j = i := by simpa using hj
  refine wpOp_step ho fun K' hK => h K' fun a w' hb hh => hK a w' ⟨hb, wpAnyH_mono (fun W hW => hb.trans (hW.mono hb.size)) _ _ _ _ hh⟩
/-- one that yields its value whatever comes is taken first -/
theorem held_take {i d : Nat} {oi : Oper} {v : Value} (hi : ops[i]? = some oi) (hd : oi.dst = some d) (hs : Region.noSelect ops = true) (hf : Region.free md ops listed i = true) (hr : (Region.ready md ops listed).contains i = true)
    (hQ : ∀ c a w, Q (.panic c) (a.put (some d) v) w → Q (.panic c) a w) (hw : Region.wanted oi (yielded ops a.tmps) = true) (hy : ∀ W, Below w.heap.size w W → (execOp a.eval oi).run P W = .ok (.value v) W)
    (h : wpAnyH P md ops Q (fun W => Below w.heap.size w W) fuel (listed.setIfInBounds i true) (a.put (some d) v) w) : wpAnyH P md ops Q (fun W => Below w.heap.size w W) (fuel + 1) listed a w :=
  wpAnyH_take hi hs hf hr (by rw [hd]; exact hQ) (Or.inl ⟨hw, hy⟩) (Below.refl _ _) (by rw [hd]; exact h)
/-- the beginning -/
theorem held_begin {id : Nat} (hm : P.follows .mixedOrders = true) (h : wpAnyH P .any ops Q (fun W => Below w.drew.heap.size w.drew W) ops.size (Array.replicate ops.size false) a w.drew) : (Code.region id ops true).wp P Q a w :=
  wp_region_held hm h
end
end Go.Proofs.YtepinmeidjlmmaaDoor
