/- A reader over any bytes: take. -/
import Derived.Test.YtepinmeidjlmmaaDoorB7
namespace Go.Proofs.YtepinmeidjlmmaaDoor
open Go.RowKit
set_option maxRecDepth 100000

/-- a slice value that holds the bytes zs -/
structure Bys (w : World) (A : Option Addr) (n : Nat) (zs : List Int) : Prop where
  len : zs.length = n
  rng : ∀ z ∈ zs, 0 ≤ z ∧ z ≤ 255
  at_ : ∀ i, i < n → ∃ a, A = some a ∧ w.cell? (a.add i) = some (.int .u8 (zs.getD i 0))
theorem add_add' (a : Addr) (i j : Nat) : (a.add i).add j = a.add (i + j) := by
  unfold Addr.add
  by_cases hi : i = 0 <;> by_cases hj : j = 0 <;> simp [hi, hj, Nat.add_assoc]
theorem block_add (a : Addr) (n : Nat) : (a.add n).block = a.block := by unfold Addr.add; split <;> rfl
theorem cell_in {w : World} {a : Addr} {v : Value} (h : w.cell? a = some v) : a.block < w.heap.size := by
  rcases Nat.lt_or_ge a.block w.heap.size with h1 | h1
  · exact h1
  · unfold World.cell? at h
    simp [Array.getElem?_eq_none h1] at h
theorem Bys.below {w w' : World} {A : Option Addr} {n : Nat} {zs : List Int} (h : Bys w A n zs) (hb : Below w.heap.size w w') : Bys w' A n zs :=
  ⟨h.len, h.rng, fun i hi => by
    obtain ⟨a, e, hc⟩ := h.at_ i hi
    exact ⟨a, e, (hb.cell (cell_in hc)).trans hc⟩⟩
/-- bytes below a block's number stay when what lies below it stays -/
def BysB (w : World) (B : Nat) (A : Option Addr) (n : Nat) (zs : List Int) : Prop := Bys w A n zs ∧ ∀ a, A = some a → 0 < n → a.block < B
theorem BysB.of {w : World} {A : Option Addr} {n : Nat} {zs : List Int} (h : Bys w A n zs) : BysB w w.heap.size A n zs :=
  ⟨h, fun a e h0 => by
    obtain ⟨a', e', hc⟩ := h.at_ 0 h0
    rw [e] at e'
    cases e'
    have := cell_in hc
    rw [block_add] at this
    exact this⟩
theorem BysB.below {w w' : World} {B : Nat} {A : Option Addr} {n : Nat} {zs : List Int} (h : BysB w B A n zs) (hb : Below B w w') : BysB w' B A n zs :=
  ⟨⟨h.1.len, h.1.rng, fun i hi => by
    obtain ⟨a, e, hc⟩ := h.1.at_ i hi
    exact ⟨a, e, (hb.cell (by rw [block_add]; exact h.2 a e (by omega))).trans hc⟩⟩, h.2⟩
theorem Bys.byte {w : World} {A : Option Addr} {n : Nat} {zs : List Int} (h : Bys w A n zs) (i : Nat) (hi : i < n) : 0 ≤ zs.getD i 0 ∧ zs.getD i 0 ≤ 255 := by
  have hl : i < zs.length := by have := h.len; omega
  simp only [List.getD, List.getElem?_eq_getElem hl, Option.getD_some]
  exact h.rng _ (List.getElem_mem hl)
/-- a stretch of them -/
def cutA (A : Option Addr) (cap at' : Nat) : Option Addr := if cap = at' then A else A.map (·.add at')
theorem Bys.cut {w : World} {A : Option Addr} {N cap : Nat} {zs : List Int} (h : Bys w A N zs) (at' n : Nat) (hn : at' + n ≤ N) (hc : N ≤ cap) :
    Bys w (cutA A cap at') n ((zs.drop at').take n) := by
  refine ⟨by have := h.len; simp; omega, fun z hz => h.rng z (List.mem_of_mem_drop (List.mem_of_mem_take hz)), fun i hi => ?_⟩
  obtain ⟨a, e, hcell⟩ := h.at_ (at' + i) (by omega)
  unfold cutA
  rw [if_neg (by omega), e]
  refine ⟨a.add at', rfl, ?_⟩
  rw [add_add', hcell]
  simp [List.getD, List.getElem?_drop, hi]
theorem cutA_eq (A : Option Addr) (at' : Nat) : cutA A at' at' = A := by unfold cutA; rw [if_pos rfl]
theorem cutA_ne {A : Option Addr} {cap at' : Nat} (h : cap ≠ at') : cutA A cap at' = A.map (·.add at') := by unfold cutA; rw [if_neg h]

/-- a reader at its input: not its nesting -/
structure Rd (w : World) (p : Nat) (A : Option Addr) (N cap at' : Nat) : Prop where
  inp : w.cell? ⟨p, 2, none⟩ = some (.slice A N cap)
  pos : w.cell? ⟨p, 3, none⟩ = some (.int .i64 at')
  fr : w.frozen? ⟨p, 3, none⟩ = false
  hcap : N ≤ cap
  hcm : cap ≤ 9223372036854775807
  hN : N ≤ 1000000000000
  hat : at' ≤ N

set_option maxHeartbeats 1000000 in
theorem tak_no (p : Nat) (A : Option Addr) (N cap at' : Nat) (n : Int) (w : World) (h : Rd w p A N cap at') (hn : (N : Int) < at' + n) (hn1 : n ≤ 18446744073709551615) :
    Calls Tryd.prog 66 #[.pointer (some ⟨p, 0, none⟩), .int .u64 n] w fun e w' => e = .returned (.tuple #[.slice none 0 0, .bool false]) ∧ ∃ m, w.drewN m = w' := by
  obtain ⟨h2, h3, _, _, _, hN, hat⟩ := h
  have k1 : ((N : Int) - (at' : Int)) < (n : Int) := by omega
  go_enter Tryd.func66, Tryd.ntmps66
  go_wp2_with fail
  go_quiet (fail)
  go_wp2
  go_ret2
  exact ⟨rfl, _, rfl⟩

theorem Rd.moved {w : World} {p : Nat} {A : Option Addr} {N cap at' : Nat} (h : Rd w p A N cap at') (m n : Nat) (hn : at' + n ≤ N) :
    RF p w ((w.drewN m).setCell ⟨p, 3, none⟩ (.int .i64 ((at' + n : Nat) : Int))) ∧ Rd ((w.drewN m).setCell ⟨p, 3, none⟩ (.int .i64 ((at' + n : Nat) : Int))) p A N cap (at' + n) :=
  ⟨RF.pos _ _ _ _, by rw [World.cell?_setCell_other _ _ _ _ (by simp)]; exact h.inp, World.cell?_setCell_same _ _ _ h.pos, by rw [World.frozen?_setCell]; exact h.fr, h.hcap, h.hcm, h.hN, hn⟩

set_option maxHeartbeats 1000000 in
theorem tak_yes (p : Nat) (A : Option Addr) (N cap at' n : Nat) (w : World) (h : Rd w p A N cap at') (hn : at' + n ≤ N) :
    Calls Tryd.prog 66 #[.pointer (some ⟨p, 0, none⟩), .int .u64 n] w fun e w' => e = .returned (.tuple #[.slice (cutA A cap at') n (cap - at'), .bool true]) ∧ RF p w w' ∧ Rd w' p A N cap (at' + n) := by
  have HM := Lib.hid (fun m => h.moved m n hn)
  have hm2 := fun m => h.moved m n hn
  rw [Int.natCast_add] at hm2
  have HM2 := Lib.hid hm2
  clear hm2
  obtain ⟨h2, h3, hf, hcap, hcm, hN, hat⟩ := h
  have k1 : ¬ ((N : Int) - (at' : Int)) < (n : Int) := by omega
  have k2 : (at' : Int) + (n : Int) ≤ (cap : Int) := by omega
  by_cases k3 : cap = at'
  · subst k3
    have hn0 : n = 0 := by omega
    subst hn0
    rw [cutA_eq]
    go_enter Tryd.func66, Tryd.ntmps66
    go_wp2_with fail
    go_quiet (fail)
    go_wp2_with fail
    go_quiet (fail)
    go_wp2
    go_ret2
    refine ⟨?_, HM.out _⟩
    show Ending.returned (.tuple #[.slice A 0 0, .bool true]) = _
    rw [Nat.sub_self]
  · rw [cutA_ne k3]
    go_enter Tryd.func66, Tryd.ntmps66
    go_wp2_with fail
    go_quiet (fail)
    go_wp2_with fail
    go_quiet (fail)
    go_wp2
    go_ret2
    refine ⟨?_, HM2.out _⟩
    show Ending.returned (.tuple #[.slice (Option.map (fun x => x.add at') A) (at' + n - at') (cap - at'), .bool true]) = _
    rw [Nat.add_sub_cancel_left]

theorem Rd.keep {w w' : World} {p : Nat} {A : Option Addr} {N cap at' : Nat} (h : Rd w p A N cap at') (hb : Below w.heap.size w w') : Rd w' p A N cap at' := by
  have hp := cell_in h.pos
  exact ⟨(hb.cell (p := ⟨p, 2, none⟩) hp).trans h.inp, (hb.cell (p := ⟨p, 3, none⟩) hp).trans h.pos, (hb.frozen (p := ⟨p, 3, none⟩) hp).trans h.fr, h.hcap, h.hcm, h.hN, h.hat⟩
end Go.Proofs.YtepinmeidjlmmaaDoor
