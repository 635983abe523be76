/- A reader over any bytes: the head as one contract. -/
import Derived.Test.YtepinmeidjlmmaaDoorH3
namespace Go.Proofs.YtepinmeidjlmmaaDoor
open Go.RowKit
set_option maxRecDepth 100000

theorem nestAt.rf {w w' : World} {base p c : Nat} {s : List Lv} {v : Value} (h : nestAt w base p c s v) (hr : RF p w w') : nestAt w' base p c s v := by
  refine ⟨(hr.cell 0 (by omega)).trans h.cnt, (hr.cell 1 (by omega)).trans h.lv, (hr.frz 0).trans h.fr0, (hr.frz 1).trans h.fr1, ?_, h.lt, Nat.le_trans h.hb hr.size, h.len, h.c512, h.ok⟩
  refine ⟨h.own.1, ?_⟩
  rcases h.own.2 with h0 | ⟨g, cap, cur, hv, hg, hh, hc⟩
  · exact .inl h0
  · refine .inr ⟨g, cap, cur, hv, hg, ?_, hc⟩
    rw [hr.block g (lt_of_heap hh) (by have := h.lt; omega), hh]

/-- a reader and its nesting -/
structure RdS (w : World) (p base c : Nat) (s : List Lv) (A : Option Addr) (N cap at' : Nat) (zs : List Int) : Prop where
  nest : ∃ v, nestAt w base p c s v
  rd : Rd w p A N cap at'
  by_ : BysB w p A N zs
  tabs : Tabs w
  p4 : 4 ≤ p
theorem RdS.plt {w : World} {p base c : Nat} {s : List Lv} {A : Option Addr} {N cap at' : Nat} {zs : List Int} (h : RdS w p base c s A N cap at' zs) : p < w.heap.size := cell_in h.rd.pos
theorem RdS.rf {w w' : World} {p base c : Nat} {s : List Lv} {A : Option Addr} {N cap at' at2 : Nat} {zs : List Int} (h : RdS w p base c s A N cap at' zs) (hr : RF p w w') (hd : Rd w' p A N cap at2) : RdS w' p base c s A N cap at2 zs := by
  obtain ⟨v, hv⟩ := h.nest
  have hb := hr.below (Nat.le_of_lt h.plt)
  exact ⟨⟨v, hv.rf hr⟩, hd, h.by_.below hb, h.tabs.below hb h.p4, h.p4⟩
theorem RdS.keep {w w' : World} {p base c : Nat} {s : List Lv} {A : Option Addr} {N cap at' : Nat} {zs : List Int} (h : RdS w p base c s A N cap at' zs) (hb : Below w.heap.size w w') : RdS w' p base c s A N cap at' zs := by
  obtain ⟨v, hv⟩ := h.nest
  exact ⟨⟨v, hv.later hb⟩, h.rd.keep hb, h.by_.below (hb.mono (Nat.le_of_lt h.plt)), h.tabs.later hb, h.p4⟩
theorem RF.of_below {p : Nat} {w w' : World} (hb : Below w.heap.size w w') (hp : p < w.heap.size) : RF p w w' :=
  ⟨hb.os, hb.tape, hb.output, hb.size, fun k hk _ => hb.block k hk, fun j _ => hb.cell (p := ⟨p, j, none⟩) hp, fun j => hb.frozen (p := ⟨p, j, none⟩) hp⟩

/-- kind, argument, error and the place behind the head at a -/
def headE (zs : List Int) (N a : Nat) : Int × Int × Int × Nat :=
  if N ≤ a then (0, 0, 1, a)
  else if zs.getD a 0 = 244 ∨ zs.getD a 0 = 245 ∨ zs.getD a 0 = 246 then (if zs.getD a 0 = 246 then 8 else 7, if zs.getD a 0 = 245 then 1 else 0, 0, a + 1)
  else if 6 < 1 + zs.getD a 0 / 32 ∨ 27 < zs.getD a 0 % 32 then (0, 0, 2, a)
  else if zs.getD a 0 % 32 < 24 then (1 + zs.getD a 0 / 32, zs.getD a 0 % 32, 0, a + 1)
  else if N < a + 1 + 2 ^ (zs.getD a 0 % 32 - 24).toNat then (0, 0, 1, a)
  else if argSz (widN zs a (2 ^ (zs.getD a 0 % 32 - 24).toNat)) = ((2 ^ (zs.getD a 0 % 32 - 24).toNat : Nat) : Int) then (1 + zs.getD a 0 / 32, widN zs a (2 ^ (zs.getD a 0 % 32 - 24).toNat), 0, a + 1 + 2 ^ (zs.getD a 0 % 32 - 24).toNat)
  else (0, 0, 2, a)

def HeadP (p : Nat) (A : Option Addr) (N cap : Nat) (h : Int × Int × Int × Nat) (w : World) (e : Ending) (w' : World) : Prop :=
  e = HeadV h.1 h.2.1 h.2.2.1 ∧ RF p w w' ∧ (h.2.2.1 = 0 → Rd w' p A N cap h.2.2.2)

theorem hed_any (p : Nat) (A : Option Addr) (N cap a : Nat) (zs : List Int) (w : World) (h : Rd w p A N cap a) (hb : BysB w p A N zs) :
    Calls Tryd.prog 64 #[.pointer (some ⟨p, 0, none⟩)] w (HeadP p A N cap (headE zs N a) w) := by
  unfold headE
  by_cases hN : N ≤ a
  · rw [if_pos hN]
    have hE : a = N := by have := h.hat; omega
    subst hE
    exact (hed_short p A a cap w h).mono fun e w' hh => ⟨hh.1, hh.2, fun h0 => by cases h0⟩
  rw [if_neg hN]
  have hby := hb.1.byte a (by omega)
  have ho : One w p A N cap a (zs.getD a 0) zs := ⟨h, hb, by omega, hby.1, hby.2, rfl⟩
  generalize zs.getD a 0 = x at *
  by_cases hx : x = 244 ∨ x = 245 ∨ x = 246
  · rw [if_pos hx]
    exact (hed_one p A N cap a x zs w ho hx).mono fun e w' hh => ⟨hh.1, hh.2.1, fun _ => hh.2.2⟩
  rw [if_neg hx]
  have hx3 : x ≠ 244 ∧ x ≠ 245 ∧ x ≠ 246 := by omega
  by_cases hbad : 6 < 1 + x / 32 ∨ 27 < x % 32
  · rw [if_pos hbad]
    exact (hed_bad p A N cap a x _ _ zs w ho hx3 rfl rfl hbad).mono fun e w' hh => ⟨hh.1, hh.2, fun h0 => by cases h0⟩
  rw [if_neg hbad]
  by_cases hlow : x % 32 < 24
  · rw [if_pos hlow]
    exact (hed_low p A N cap a x _ _ zs w ho rfl rfl (by omega) hlow).mono fun e w' hh => ⟨hh.1, hh.2.1, fun _ => hh.2.2⟩
  rw [if_neg hlow]
  obtain ⟨j, hj⟩ : ∃ j : Nat, x % 32 - 24 = j := ⟨(x % 32 - 24).toNat, by omega⟩
  rw [hj, Int.toNat_natCast]
  by_cases hsh : N < a + 1 + 2 ^ j
  · rw [if_pos hsh]
    exact (hed_wshort p A N cap a x _ j zs w ho rfl (by omega) (by omega) (by omega) hsh).mono fun e w' hh => ⟨hh.1, hh.2, fun h0 => by cases h0⟩
  rw [if_neg hsh]
  by_cases hok : argSz (widN zs a (2 ^ j)) = ((2 ^ j : Nat) : Int)
  · rw [if_pos hok]
    exact (hed_wide p A N cap a x _ j zs w ho rfl (by omega) (by omega) (by omega) (by omega) hok).mono fun e w' hh => ⟨hh.1, hh.2.1, fun _ => hh.2.2⟩
  · rw [if_neg hok]
    exact (hed_wbad p A N cap a x _ j zs w ho rfl (by omega) (by omega) (by omega) (by omega) hok).mono fun e w' hh => ⟨hh.1, hh.2, fun h0 => by cases h0⟩

/-- what a head without error is like -/
theorem head_ok {zs : List Int} {N a : Nat} (hr : ∀ z ∈ zs, 0 ≤ z ∧ z ≤ 255) (hl : zs.length = N) {k n : Int} {a2 : Nat} (h : headE zs N a = (k, n, 0, a2)) :
    1 ≤ k ∧ k ≤ 8 ∧ 0 ≤ n ∧ n ≤ 18446744073709551615 ∧ (k = 7 → n ≤ 1) ∧ (k = 8 → n = 0) ∧ a < a2 ∧ a2 ≤ N := by
  unfold headE at h
  by_cases hN : N ≤ a
  · rw [if_pos hN] at h; simp at h
  rw [if_neg hN] at h
  have hby : 0 ≤ zs.getD a 0 ∧ zs.getD a 0 ≤ 255 := by
    simp only [List.getD, List.getElem?_eq_getElem (show a < zs.length by omega), Option.getD_some]
    exact hr _ (List.getElem_mem _)
  generalize zs.getD a 0 = x at *
  by_cases hx : x = 244 ∨ x = 245 ∨ x = 246
  · rw [if_pos hx] at h
    simp only [Prod.mk.injEq] at h
    obtain ⟨h1, h2, _, h4⟩ := h
    rcases hx with rfl | rfl | rfl <;> simp at h1 h2 <;> omega
  rw [if_neg hx] at h
  by_cases hbad : 6 < 1 + x / 32 ∨ 27 < x % 32
  · rw [if_pos hbad] at h; simp at h
  rw [if_neg hbad] at h
  by_cases hlow : x % 32 < 24
  · rw [if_pos hlow] at h
    simp only [Prod.mk.injEq] at h
    omega
  rw [if_neg hlow] at h
  obtain ⟨j, hj⟩ : ∃ j : Nat, x % 32 - 24 = j := ⟨(x % 32 - 24).toNat, by omega⟩
  rw [hj, Int.toNat_natCast] at h
  by_cases hsh : N < a + 1 + 2 ^ j
  · rw [if_pos hsh] at h; simp at h
  rw [if_neg hsh] at h
  by_cases hok : argSz (widN zs a (2 ^ j)) = ((2 ^ j : Nat) : Int)
  · rw [if_pos hok] at h
    simp only [Prod.mk.injEq] at h
    have hj4 : j = 0 ∨ j = 1 ∨ j = 2 ∨ j = 3 := by omega
    have hbd := beTo_bd ((zs.drop (a + 1)).take (2 ^ j)) (fun z hz => hr z (List.mem_of_mem_drop (List.mem_of_mem_take hz))) (2 ^ j) (by simp; omega)
    have hw : widN zs a (2 ^ j) = beTo ((zs.drop (a + 1)).take (2 ^ j)) (2 ^ j) := rfl
    rw [← hw] at hbd
    obtain ⟨h1, h2, _, h4⟩ := h
    rw [h2] at hbd
    rcases hj4 with rfl | rfl | rfl | rfl <;> simp at hbd h4 hsh <;> omega
  · rw [if_neg hok] at h; simp at h
end Go.Proofs.YtepinmeidjlmmaaDoor
