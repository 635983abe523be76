/- Bytes in memory; the word of up to eight of them. -/
import Derived.Test.YtgfcbgnlkiebhaaSipD
import Derived.Deep.AppendLies
namespace Go.Proofs.Ytgfcbgnlkiebhaa
open Go.RowKit
set_option maxRecDepth 100000
attribute [local go_sem] val_xor val_or val_add

/-- a slice value that holds the bytes zs -/
structure Bytes (w : World) (A : Option Addr) (n : Nat) (zs : List Int) : Prop where
  len : zs.length = n
  rng : ∀ z ∈ zs, 0 ≤ z ∧ z ≤ 255
  at_ : ∀ i, i < n → ∃ a, A = some a ∧ w.cell? (a.add i) = some (.int .u8 (zs.getD i 0))

theorem Addr.block_add (a : Addr) (n : Nat) : (a.add n).block = a.block := by unfold Addr.add; split <;> rfl
theorem Addr.add_add' (a : Addr) (i j : Nat) : (a.add i).add j = a.add (i + j) := by
  unfold Addr.add
  by_cases hi : i = 0 <;> by_cases hj : j = 0 <;> simp [hi, hj, Nat.add_assoc]
theorem cell_in {w : World} {a : Addr} {v : Value} (h : w.cell? a = some v) : a.block < w.heap.size := by
  rcases Nat.lt_or_ge a.block w.heap.size with h1 | h1
  · exact h1
  · unfold World.cell? at h
    simp [Array.getElem?_eq_none h1] at h
theorem Bytes.below {w w' : World} {A : Option Addr} {n : Nat} {zs : List Int} (h : Bytes w A n zs) (hb : Below w.heap.size w w') : Bytes w' A n zs :=
  ⟨h.len, h.rng, fun i hi => by
    obtain ⟨a, e, hc⟩ := h.at_ i hi
    exact ⟨a, e, (hb.cell (cell_in hc)).trans hc⟩⟩
theorem Bytes.byte {w : World} {A : Option Addr} {n : Nat} {zs : List Int} (h : Bytes w A n zs) (i : Nat) (hi : i < n) : 0 ≤ zs.getD i 0 ∧ zs.getD i 0 ≤ 255 := by
  have hl : i < zs.length := by have := h.len; omega
  simp only [List.getD, List.getElem?_eq_getElem hl, Option.getD_some]
  exact h.rng _ (List.getElem_mem hl)
theorem Bytes.take {w : World} {A : Option Addr} {n : Nat} {zs : List Int} (h : Bytes w A n zs) (k : Nat) (hk : k ≤ n) : Bytes w A k (zs.take k) := by
  refine ⟨by have := h.len; simp; omega, fun z hz => h.rng z (List.mem_of_mem_take hz), fun i hi => ?_⟩
  obtain ⟨a, e, hc⟩ := h.at_ i (by omega)
  refine ⟨a, e, hc.trans ?_⟩
  simp [List.getD, hi]
theorem Bytes.drop {w : World} {A : Option Addr} {n cap : Nat} {zs : List Int} (h : Bytes w A n zs) (k : Nat) (hk : k ≤ n) (hc : n ≤ cap) :
    Bytes w (if cap = k then A else A.map (·.add k)) (n - k) (zs.drop k) := by
  refine ⟨by have := h.len; simp; omega, fun z hz => h.rng z (List.mem_of_mem_drop hz), fun i hi => ?_⟩
  obtain ⟨a, e, hcell⟩ := h.at_ (k + i) (by omega)
  rw [if_neg (by omega), e]
  refine ⟨a.add k, rfl, ?_⟩
  rw [Addr.add_add', hcell]
  simp [List.getD, List.getElem?_drop]

theorem le_step (x : BitVec 64) (z : Int) (k : Nat) (h0 : 0 ≤ z) (h1 : z ≤ 255) : bits .or .u64 (val x) (IntKind.u64.wrap (z * 2 ^ (8 * k))) = val (x ||| BitVec.ofInt 64 z <<< (8 * k)) := by
  have e : z = val (BitVec.ofInt 64 z) := val_of h0 (by omega)
  generalize BitVec.ofInt 64 z = y at *
  rw [e, val_shl, val_or]

set_option maxHeartbeats 1000000 in
theorem little_any (A : Option Addr) (n cap : Nat) (zs : List Int) (w : World) (hb : Bytes w A n zs) (hn : n ≤ 8) :
    Calls Try.prog 32 #[.slice A n cap] w fun e w' => e = .returned (.int .u64 (val (leTo zs n))) ∧ w = w' := by
  go_enter Try.func32, Try.ntmps32
  go_wp2
  go_loop [3, 8] (fun x i => ∃ k : Nat, k ≤ n ∧ i = .int .i64 k ∧ x = .int .u64 (val (leTo zs k))) (fun _ i => n - (intOf i).toNat)
  case atStart => exact ⟨0, Nat.zero_le _, rfl, rfl⟩
  case round =>
    obtain ⟨k, hk, rfl, rfl⟩ := hrel
    by_cases hlt : k < n
    · obtain ⟨a, rfl, hcell⟩ := hb.at_ k hlt
      obtain ⟨z0, z1⟩ := hb.byte k hlt
      generalize hz : zs.getD k 0 = z at *
      have Hz := Lib.hid hz
      clear hz
      go_wp2
      go_round
      case rel => exact ⟨k + 1, by omega, by go_num, by rw [le_step _ _ _ z0 z1, ← Hz.out]; rfl⟩
      case measure => simp [intOf]; omega
    · have hkn : k = n := by omega
      subst hkn
      go_wp2
      go_ret
      exact ⟨rfl, rfl⟩

theorem begin_world {P : Program} {code : Code} {Q : Exit → Act → World → Prop} {a : Act} {W : World} {g B : Nat} {s : S4} {w0 : World} (hS : St W g s) (hO : Below B w0 W)
    (h : ∀ W', St W' g s → Below B w0 W' → Code.wp P code Q a W') : Code.wp P code Q a W := h W hS hO
theorem St.new (w : World) (s : S4) : St (w.alloc (.cells #[.int .u64 (val s.a), .int .u64 (val s.b), .int .u64 (val s.c), .int .u64 (val s.d)] 50)) w.heap.size s := heap_alloc_new w _
theorem Only.below' {g : Nat} {w0 w w' : World} (hb : Below w0.heap.size w0 w) (h : Only g w w') (hg : w0.heap.size ≤ g) : Below w0.heap.size w0 w' := hb.trans (h.below hg)

theorem len_word (n : Nat) (h : n ≤ 9223372036854775807) : IntKind.u64.wrap ((n : Int) * 72057594037927936) = val (BitVec.ofNat 64 n <<< 56) := by
  have e : (n : Int) = val (BitVec.ofNat 64 n) := by unfold val; rw [BitVec.toNat_ofNat]; omega
  rw [← val_shl, ← e]; rfl

set_option maxHeartbeats 1000000 in
theorem sum_any (x y : BitVec 64) (A : Option Addr) (n cap : Nat) (zs : List Int) (w : World) (hb : Bytes w A n zs) (hc : n ≤ cap) (hm : cap ≤ 9223372036854775807) :
    Calls Try.prog 28 #[.int .u64 (val x), .int .u64 (val y), .slice A n cap] w fun e w' => e = .returned (.int .u64 (val (sipSum x y zs))) ∧ Below w.heap.size w w' := by
  go_enter Try.func28, Try.ntmps28
  go_wp2_with fail
  refine (newState_any x y _).mono ?_
  rintro e w1 ⟨rfl, hb1⟩
  go_wp2
  have hg := hb1.size
  refine begin_world (St.new w1 (sipNew x y)) (hb1.trans ((Below.refl _ w1).alloc hb1.size _)) ?_
  generalize w1.heap.size = g at *
  clear hb1
  intro w2 hs2 hb2
  have HS := Lib.hid hs2
  clear hs2
  go_loopw [8] (fun v wr => ∃ j : Nat, ∃ A' : Option Addr, ∃ m c : Nat, v = .slice A' m c ∧ Hid (m = n - 8 * j ∧ c = cap - 8 * j) ∧ 8 * j ≤ n ∧ m ≤ c ∧ Bytes w A' m (zs.drop (8 * j)) ∧ St wr g (sipTo x y zs j) ∧ Below w.heap.size w wr) (fun v _ => match v with | .slice _ m _ => m | _ => 0)
  case atStart => exact ⟨0, A, n, cap, rfl, Lib.hid ⟨rfl, rfl⟩, by omega, hc, hb, HS.out, hb2⟩
  case round =>
    obtain ⟨j, A', m, c, rfl, He, hj, hmc, hbr0, hs, hbw⟩ := hrel
    have hbr := hbr0.below hbw
    have hmm : c ≤ 9223372036854775807 := by have := He.out.2; omega
    by_cases hlt : 8 ≤ m
    · have ht := hbr.take 8 hlt
      have hd := hbr0.drop 8 hlt hmc
      go_wp2_with fail
      refine (little_any _ _ _ _ _ ht (by omega)).mono ?_
      rintro e w' ⟨rfl, rfl⟩
      have hl := hb.len
      have hw8 : leTo (List.take 8 (List.drop (8 * j) zs)) 8 = sipWord zs (8 * j) := le_full zs (8 * j) (by have := He.out.1; omega)
      rw [hw8]
      generalize hwd : sipWord zs (8 * j) = wd at *
      have Hwd := Lib.hid hwd
      clear hwd hw8 hl ht
      go_wp2_with fail
      refine (absorb_any g _ _ _ hs).mono ?_
      rintro e w' ⟨rfl, hs', ho⟩
      have hb' := Only.below' hbw ho hg
      have hst : St w' g (sipTo x y zs (j + 1)) := by rw [← Hwd.out] at hs'; exact hs'
      have hdd : (zs.drop (8 * j)).drop 8 = zs.drop (8 * (j + 1)) := by rw [List.drop_drop]; rfl
      rw [hdd] at hd
      have Hd := Lib.hid hd
      clear hd hdd hs' hbr hbr0
      by_cases hc8 : c = 8
      · subst hc8
        rw [if_pos rfl] at Hd
        have hm8 : m = 8 := by omega
        subst hm8
        go_wp2
        go_roundw
        case rel => exact ⟨j + 1, A', 0, 0, rfl, Lib.hid (by have := He.out; omega), by have := He.out; omega, by omega, Hd.out, hst, hb'⟩
        case measure => show 0 < 8; omega
      · rw [if_neg hc8] at Hd
        go_wp2
        go_roundw
        case rel => exact ⟨j + 1, _, _, _, rfl, Lib.hid (by have := He.out; omega), by have := He.out; omega, by omega, Hd.out, hst, hb'⟩
        case measure => show m - 8 < m; omega
    · have hl := hb.len
      have hm8 : m = n - 8 * j := He.out.1
      have hlast := le_last zs j (by omega) (by omega)
      rw [hl, ← hm8] at hlast
      have Hlast := Lib.hid hlast
      have Hm8 := Lib.hid hm8
      clear hl hlast hm8
      have HS' := Lib.hid hs
      clear hs
      go_wp2_with fail
      refine (little_any _ _ _ _ _ hbr (by omega)).mono ?_
      rintro e w' ⟨rfl, rfl⟩
      go_wp2_with fail
      rw [len_word n (by omega), val_or, Hlast.out]
      refine (absorb_any g _ _ _ HS'.out).mono ?_
      rintro e w' ⟨rfl, hs', ho⟩
      have hb' := Only.below' hbw ho hg
      have HS2 := Lib.hid hs'
      clear hs'
      go_wp2_with fail
      refine (finish_any g _ _ HS2.out).mono ?_
      rintro e w'' ⟨rfl, ho2⟩
      have hb2' := Only.below' hb' ho2 hg
      have hj8 : zs.length / 8 = j := by have := Hm8.out; have := hb.len; omega
      have hfin : sipFinish (sipAbsorb (sipTo x y zs j) (sipWord zs (8 * j))) = sipSum x y zs := by unfold sipSum; rw [hj8]; rfl
      rw [hfin]
      go_wp2
      go_ret
      exact ⟨rfl, hb2'⟩
end Go.Proofs.Ytgfcbgnlkiebhaa
