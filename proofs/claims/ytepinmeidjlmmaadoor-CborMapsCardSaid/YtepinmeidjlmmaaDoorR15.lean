/- Joined: X1, Y1, Y2, Y3, Y4, Y5, Y6. -/
import Derived.Test.YtepinmeidjlmmaaDoorR14
import Derived.Test.YtepinmeidjlmmaaDoorR11
import Derived.WalkSpells
/- The law CborEncodes, walked. -/
namespace Go.Proofs.YtepinmeidjlmmaaDoor
open Go.RowKit
set_option maxRecDepth 100000

/-- an encoder's answer: error, and bytes that read as one string from then on -/
def EncP (E : Int) (S : ByteArray) (W : World) (e : Ending) (w' : World) : Prop :=
  ∃ v', e = .returned (.tuple #[v', .int .i64 E]) ∧ Below W.heap.size W w' ∧ ∀ W', Below w'.heap.size w' W' → (convert 25 9 v').run Tryd.prog W' = .ok (.string S) W'
def encS (l : List It) : ByteArray := if validE l = 0 then strOfNums (encAll l) else ByteArray.empty

theorem enc_both (l : List It) (v : Value) (B : Nat) (w : World) (hI : ItemsAt w B v l) (hB : B ≤ w.heap.size) (ht : Tabs w) (hlen : l.length ≤ 300) :
    Calls Tryd.prog 16 #[v] w (EncP (validE l) (encS l) w) ∧ Calls Tryd.prog 17 #[v] w (EncP (validE l) (encS l) w) := by
  have hI2 := itemsAt_mono hI hB
  have hpos : ∀ x ∈ l, 0 ≤ x.n := fun x hx => (hI.ok x hx).1
  by_cases hz : validE l = 0
  · have hzR : validR l = 0 := by rw [← valid_same l hpos]; exact hz
    have hS := (validGo_sound l 0 [] hpos hz).1
    have hsh := validGo_shape l 0 [] hz
    have hlen0 : 0 < l.length := by
      cases l with
      | nil => exact absurd hz (by decide)
      | cons a b => simp
    have hp := encAll_pos hlen0 hS hsh
    rw [encS, if_pos hz, hz]
    refine ⟨(encode_good l v w hI2 ht hz).mono ?_, (encodeR_good l v w hI2 ht hzR hS (by omega)).mono ?_⟩
    · rintro e w' ⟨v', rfl, ho, hb⟩
      exact ⟨v', rfl, hb, fun W' hW => conv_row (own_below ho hW) hp.1⟩
    · rintro e w' ⟨v', rfl, ho, hb⟩
      exact ⟨v', rfl, hb, fun W' hW => by rw [← strOf_same hS hsh]; exact conv_row (own_below ho hW) hp.2⟩
  · have hzR : validR l ≠ 0 := by rw [← valid_same l hpos]; exact hz
    have h17 := encodeR_bad l v w hI2 ht hzR
    rw [← valid_same l hpos] at h17
    rw [encS, if_neg hz]
    refine ⟨(encode_bad l v w hI2 ht hz).mono ?_, h17.mono ?_⟩
    · rintro e w' ⟨rfl, hb⟩
      exact ⟨_, rfl, hb, fun W' _ => conv_nil W'⟩
    · rintro e w' ⟨rfl, hb⟩
      exact ⟨_, rfl, hb, fun W' _ => conv_nil W'⟩

theorem whole_tame (l : List Int) : ∀ x ∈ treeL l, Tame x := fun x hx => ⟨(treeL_whole l x hx).pos, (treeL_whole l x hx).u64, Nat.le_trans (treeL_whole l x hx).small (by decide)⟩

set_option maxHeartbeats 2000000 in
theorem encodes_law (A : Option Addr) (n cap : Nat) (l : List Int) (z : Int) (w : World) (h : Ints w A n l) (hn : n ≤ 9223372036854775807) (ht : Tabs w) :
    Calls Tryd.prog 4 #[.slice A n cap, .int .i64 z] w fun e w' => e = .returned (.bool true) ∧ Below w.heap.size w w' := by
  have HC := Lib.hid (Tree_any A n cap l w h hn)
  have HT := Lib.hid ht
  have hand : bits .and .i64 z 1048575 = z % 1048576 := bits_low 20 (by decide) z
  obtain ⟨m, hm⟩ : ∃ m : Nat, z % 1048576 = m := ⟨(z % 1048576).toNat, by have := Int.emod_nonneg z (show (1048576 : Int) ≠ 0 by decide); omega⟩
  clear h ht
  go_enter Tryd.func4, Tryd.ntmps4
  go_wp2_with (go_at_call 20; refine HC.out.mono ?_; rintro e w1 ⟨g, c, rfl, ho, hb⟩)
  have HI := Lib.hid (tree_items ho)
  have HB1 := Lib.hid hb
  clear ho hb
  refine (spoil_any g 0 c m (treeL l) w1 HI.out (whole_tame l) (treeL_ne l) (Nat.le_trans (treeL_len l) (by decide))).mono ?_
  rintro e w2 ⟨ys, A2, c2, rfl, hI2, hb2, _, hl2⟩
  have HI1 := Lib.hid (HI.out.below hb2)
  have HI2 := Lib.hid hI2
  have HB2 := Lib.hid (HB1.out.trans (hb2.mono HB1.out.size))
  have hs12 := hb2.size
  have hs2 := HB2.out.size
  have htl := treeL_len l
  have hx : ∀ W, Below w2.heap.size w2 W → Calls Tryd.prog 16 #[.slice (some ⟨g, 0, none⟩) (treeL l).length c] W (EncP 0 (encS (treeL l)) W) ∧ Calls Tryd.prog 17 #[.slice (some ⟨g, 0, none⟩) (treeL l).length c] W (EncP 0 (encS (treeL l)) W) ∧ Calls Tryd.prog 18 #[.slice (some ⟨g, 0, none⟩) (treeL l).length c] W (fun e w' => e = .returned (.int .i64 0) ∧ Below W.heap.size W w') := fun W hW => by
    have hIW := HI1.out.below (hW.mono hs12)
    have htW := HT.out.later (HB2.out.trans (hW.mono hs2))
    have h1 := enc_both (treeL l) _ _ W hIW (Nat.le_trans hs12 hW.size) htW (by omega)
    have h3 := validate_any (treeL l) _ W (itemsAt_mono hIW (Nat.le_trans hs12 hW.size)) htW
    rw [tree_valid l] at h1 h3
    exact ⟨h1.1, h1.2, h3⟩
  have hy : ∀ W, Below w2.heap.size w2 W → Calls Tryd.prog 16 #[.slice A2 ys.length c2] W (EncP (validE ys) (encS ys) W) ∧ Calls Tryd.prog 17 #[.slice A2 ys.length c2] W (EncP (validE ys) (encS ys) W) ∧ Calls Tryd.prog 18 #[.slice A2 ys.length c2] W (fun e w' => e = .returned (.int .i64 (validE ys)) ∧ Below W.heap.size W w') := fun W hW => by
    have hIW := HI2.out.below hW
    have htW := HT.out.later (HB2.out.trans (hW.mono hs2))
    have h1 := enc_both ys _ _ W hIW hW.size htW (by omega)
    exact ⟨h1.1, h1.2, validate_any ys _ W (itemsAt_mono hIW hW.size) htW⟩
  have HX := Lib.hid hx
  have HY := Lib.hid hy
  clear hI2 hb2 hx hy
  generalize encS (treeL l) = S1 at *
  generalize encS ys = S2 at *
  generalize validE ys = E2 at *
  go_wp2_with fail
  refine (HX.out _ (Below.refl _ _)).1.mono ?_
  rintro e w3 ⟨v3, rfl, hb3, hc3⟩
  have HB3 := Lib.hid hb3
  have HC3 := Lib.hid hc3
  clear hb3 hc3
  go_wp2_with fail
  refine (HX.out _ HB3.out).2.1.mono ?_
  rintro e w4 ⟨v4, rfl, hb4, hc4⟩
  have HB34 := Lib.hid hb4
  have HB4 := Lib.hid (below_aft HB3.out hb4)
  have HC4 := Lib.hid hc4
  clear hb4 hc4
  go_wp2_with fail
  refine (HY.out _ HB4.out).1.mono ?_
  rintro e w5 ⟨v5, rfl, hb5, hc5⟩
  have HB45 := Lib.hid hb5
  have HB5 := Lib.hid (below_aft HB4.out hb5)
  have HC5 := Lib.hid hc5
  clear hb5 hc5
  go_wp2_with fail
  refine (HY.out _ HB5.out).2.1.mono ?_
  rintro e w6 ⟨v6, rfl, hb6, hc6⟩
  have HB6 := Lib.hid (below_aft HB5.out hb6)
  have k3 := HC3.out w6 (((HB34.out.trans (HB45.out.mono HB34.out.size))).trans (hb6.mono (Nat.le_trans HB34.out.size HB45.out.size)))
  have k4 := HC4.out w6 (HB45.out.trans (hb6.mono HB45.out.size))
  have k5 := HC5.out w6 hb6
  have k6 := hc6 w6 (Below.refl _ _)
  clear hb6 hc6
  go_wp2_with fail
  refine (HX.out _ HB6.out).2.2.mono ?_
  rintro e w7 ⟨rfl, hb7⟩
  have HB7 := Lib.hid (below_aft HB6.out hb7)
  clear hb7
  go_wp2_with fail
  refine (HY.out _ HB7.out).2.2.mono ?_
  rintro e w8 ⟨rfl, hb8⟩
  have HB8 := Lib.hid (HB2.out.trans ((below_aft HB7.out hb8).mono hs2))
  clear hb8
  go_wp2_with fail
  refine (awake_any _ (HT.out.later HB8.out)).mono ?_
  rintro e w9 ⟨rfl, hb9⟩
  go_wp2
  go_ret
  exact ⟨rfl, below_aft HB8.out hb9⟩
end Go.Proofs.YtepinmeidjlmmaaDoor

/- Skip of both. -/
namespace Go.Proofs.YtepinmeidjlmmaaDoor
open Go.RowKit
set_option maxRecDepth 100000

def skipGo : List It → Int → Nat → Int × Bool
  | [], _, _ => (0, false)
  | x :: r, need, p => if tooManyB x.k x.n = true then (0, false) else if need - 1 + partsN x.k x.n = 0 then ((p : Int) + 1, true) else skipGo r (need - 1 + partsN x.k x.n) (p + 1)
def skipE (l : List It) (at_ : Int) : Int × Bool := if at_ < 0 ∨ (l.length : Int) ≤ at_ then (0, false) else skipGo (l.drop at_.toNat) 1 at_.toNat
theorem parts_small {x : It} (h0 : 0 ≤ x.n) (h : tooManyB x.k x.n = false) : 0 ≤ partsN x.k x.n ∧ partsN x.k x.n ≤ 1024 ∧ (x.k = 5 ∨ x.k = 6 → x.n ≤ 512) := by
  unfold tooManyB at h
  unfold partsN
  by_cases h5 : x.k = 5
  · simp [h5] at h
    rw [if_pos h5]
    omega
  · by_cases h6 : x.k = 6
    · simp [h6] at h
      rw [if_neg h5, if_pos h6]
      omega
    · rw [if_neg h5, if_neg h6]
      omega
theorem skip_out {l : List It} {z : Int} (h : z < 0 ∨ (l.length : Int) ≤ z) : skipE l z = (0, false) := if_pos h
theorem skip_in {l : List It} {p : Nat} (h : p < l.length) : skipE l p = skipGo (l.drop p) 1 p := by
  unfold skipE
  rw [if_neg (by omega)]
  rfl
theorem skipGo_many {x : It} {r : List It} {m : Int} {p : Nat} (h : tooManyB x.k x.n = true) : skipGo (x :: r) m p = (0, false) := by simp [skipGo, h]
theorem skipGo_end {x : It} {r : List It} {m : Int} {p : Nat} (h : tooManyB x.k x.n = false) (h2 : m - 1 + partsN x.k x.n = 0) : skipGo (x :: r) m p = ((p : Int) + 1, true) := by simp [skipGo, h, h2]
theorem skipGo_on {x : It} {r : List It} {m : Int} {p : Nat} (h : tooManyB x.k x.n = false) (h2 : m - 1 + partsN x.k x.n ≠ 0) : skipGo (x :: r) m p = skipGo r (m - 1 + partsN x.k x.n) (p + 1) := by simp [skipGo, h, h2]

set_option maxHeartbeats 2000000 in
theorem skip_big (l : List It) (v : Value) (z : Int) (B : Nat) (w : World) (hI : ItemsAt w B v l) (h : z < 0 ∨ (l.length : Int) ≤ z) :
    Calls Tryd.prog 25 #[v, .int .i64 z] w fun e w' => e = .returned (.tuple #[.int .i64 (skipE l z).1, .bool (skipE l z).2]) ∧ Below w.heap.size w w' := by
  rw [skip_out h]
  obtain ⟨a, cap, rfl⟩ : ∃ a cap, v = .slice a l.length cap := by
    rcases hI.form with ⟨rfl, rfl⟩ | ⟨b, off, cap, rfl, _⟩
    · exact ⟨none, 0, rfl⟩
    · exact ⟨_, cap, rfl⟩
  clear hI
  generalize l.length = n at *
  by_cases hz : z < 0
  · clear h
    go_enter Tryd.func25, Tryd.ntmps25
    go_wp2
    go_ret2
    exact ⟨rfl, Below.refl _ _⟩
  · have hz2 : (n : Int) ≤ z := by omega
    clear h
    go_enter Tryd.func25, Tryd.ntmps25
    go_wp2
    go_ret2
    exact ⟨rfl, Below.refl _ _⟩

theorem wrap_need (m p : Int) (h1 : 1 ≤ m) (h2 : m ≤ 2000000000000000000) (h3 : 0 ≤ p) (h4 : p ≤ 1024) : IntKind.u64.wrap (m + IntKind.u64.wrap (p - 1)) = m - 1 + p := by
  rw [IntKind.wrap_u64, IntKind.wrap_u64]
  omega
theorem items_cells {w : World} {B b off cap : Nat} {l : List It} (h : ItemsAt w B (.slice (some ⟨b, off, none⟩) l.length cap) l) : (0 < l.length → b < B) ∧ ∀ i (h : i < l.length), w.cell? ⟨b, off + i * 3, none⟩ = some (.int .i64 l[i].k) ∧ w.cell? ⟨b, off + i * 3 + 1, none⟩ = some (.int .u64 l[i].n) ∧ w.cell? ⟨b, off + i * 3 + 2, none⟩ = some (.string l[i].d) := by
  rcases h.form with ⟨h0, _⟩ | ⟨b', off', cap', hv, hlt, hc⟩
  · cases h0
  · cases hv
    exact ⟨fun _ => hlt, hc⟩

set_option maxHeartbeats 2000000 in
theorem skip_at (l : List It) (b off cap p : Nat) (w : World) (hI : ItemsAt w w.heap.size (.slice (some ⟨b, off, none⟩) l.length cap) l) (hcap : l.length ≤ cap) (h : p < l.length) :
    Calls Tryd.prog 25 #[.slice (some ⟨b, off, none⟩) l.length cap, .int .i64 p] w fun e w' => e = .returned (.tuple #[.int .i64 (skipE l p).1, .bool (skipE l p).2]) ∧ Below w.heap.size w w' := by
  rw [skip_in h]
  obtain ⟨r, hr⟩ : ∃ r, skipGo (l.drop p) 1 p = r := ⟨_, rfl⟩
  rw [hr]
  have HR := Lib.hid hr
  have hlen := hI.len
  have HOK := Lib.hid hI.ok
  have HC := Lib.hid (items_cells hI).2
  have hb := (items_cells hI).1 (by omega)
  clear hr hI
  obtain ⟨n, hn⟩ : ∃ n, l.length = n := ⟨_, rfl⟩
  rw [hn] at hcap h hlen ⊢
  have HN := Lib.hid hn
  clear hn
  have hd1 : decide (n ≤ p) = false := decide_eq_false (by omega)
  have hd2 : decide ((p : Int) < 0) = false := decide_eq_false (by omega)
  go_enter Tryd.func25, Tryd.ntmps25
  go_wp2_with fail
  go_loopw [6, 21] (fun ms i wr => ∃ j : Nat, ∃ m : Int, i = .int .i64 j ∧ ms = .int .u64 m ∧ j ≤ n - p ∧ 1 ≤ m ∧ m ≤ 1 + 1024 * (j : Int) ∧ skipGo (l.drop (p + j)) m (p + j) = r ∧ Below w.heap.size w wr) (fun _ i _ => n - p - (intOf i).toNat)
  case atStart => exact ⟨0, 1, rfl, rfl, by omega, by omega, by omega, HR.out, Below.refl _ _⟩
  case round =>
    obtain ⟨j, m, rfl, rfl, hj, hm1, hm2, hgo, hbk⟩ := hrel
    have hsz := hbk.size
    have hblt : b < wr.heap.size := Nat.lt_of_lt_of_le hb hsz
    by_cases hlt : j < n - p
    · have hi : p + j < l.length := by rw [HN.out]; omega
      obtain ⟨c0, c1, c2⟩ := HC.out (p + j) hi
      have d0 := (hbk.cell (p := ⟨b, off + (p + j) * 3, none⟩) hb).trans c0
      have d1 := (hbk.cell (p := ⟨b, off + (p + j) * 3 + 1, none⟩) hb).trans c1
      have d2 := (hbk.cell (p := ⟨b, off + (p + j) * 3 + 2, none⟩) hb).trans c2
      rw [show off + (p + j) * 3 = off + p * 3 + j * 3 by omega] at d0 d1 d2
      have hx := HOK.out _ (List.getElem_mem hi)
      rw [drop_at hi] at hgo
      generalize l[p + j] = x at *
      have HGO := Lib.hid hgo
      have HB := Lib.hid hbk
      clear hgo hbk c0 c1 c2
      obtain ⟨k, q, d⟩ := x
      dsimp only at d0 d1 d2 hx
      rcases htm : tooManyB k q with _ | _
      · have hps := parts_small (x := ⟨k, q, d⟩) hx.1 htm
        dsimp only at hps
        have hHGO := HGO.out
        obtain ⟨M, hM⟩ : ∃ M, m - 1 + partsN k q = M := ⟨_, rfl⟩
        have hwr := wrap_need m (partsN k q) hm1 (by omega) hps.1 hps.2.1
        rw [hM] at hwr
        have hP := Lib.hid (fun W => parts_any k q d W hx.1 (fun h6 => hps.2.2 (.inr h6)))
        have hM0 : 0 ≤ M ∧ M ≤ 1 + 1024 * ((j : Int) + 1) := by omega
        by_cases hz : M = 0
        · rw [skipGo_end htm (by dsimp only; omega)] at hHGO
          subst hHGO
          subst hz
          generalize partsN k q = P0 at *
          have Hx := Lib.hid hx
          have Htm := Lib.hid htm
          clear hps hM hx HGO htm
          go_wp2_with fail
          refine (tooMany_any k q _).mono ?_
          rintro e w1 ⟨rfl, rfl⟩
          rw [Htm.out]
          go_wp2_with fail
          refine (hP.out _).mono ?_
          rintro e w1 ⟨rfl, rfl⟩
          go_wp2
          go_ret2
          exact ⟨rfl, (HB.out.alloc hsz _).alloc (by simp; omega) _⟩
        · rw [skipGo_on htm (by dsimp only; omega)] at hHGO
          dsimp only at hHGO
          rw [hM] at hHGO
          have HG2 := Lib.hid hHGO
          generalize partsN k q = P0 at *
          have Hx := Lib.hid hx
          have Htm := Lib.hid htm
          clear hps hM hx HGO htm hHGO
          go_wp2_with fail
          refine (tooMany_any k q _).mono ?_
          rintro e w1 ⟨rfl, rfl⟩
          rw [Htm.out]
          go_wp2_with fail
          refine (hP.out _).mono ?_
          rintro e w1 ⟨rfl, rfl⟩
          go_wp2
          go_roundw
          case rel => exact ⟨j + 1, M, by go_num, rfl, by omega, by omega, by omega, HG2.out, (HB.out.alloc hsz _).alloc (by simp; omega) _⟩
          case measure => (simp [intOf] <;> omega)
      · have hHGO := HGO.out
        rw [skipGo_many htm] at hHGO
        subst hHGO
        go_wp2_with fail
        refine (tooMany_any k q _).mono ?_
        rintro e w1 ⟨rfl, rfl⟩
        rw [htm]
        go_wp2
        go_ret2
        exact ⟨rfl, HB.out.alloc hsz _⟩
    · have hj2 : j = n - p := by omega
      subst hj2
      rw [List.drop_eq_nil_of_le (by rw [HN.out]; omega)] at hgo
      have hgo2 : ((0 : Int), false) = r := hgo
      subst hgo2
      have HB := Lib.hid hbk
      clear hgo hbk
      go_wp2
      go_ret2
      exact ⟨rfl, HB.out⟩

theorem skip_any (l : List It) (v : Value) (z : Int) (w : World) (hI : ItemsAt w w.heap.size v l) (hcap : ∀ a c, v = .slice a l.length c → l.length ≤ c) :
    Calls Tryd.prog 25 #[v, .int .i64 z] w fun e w' => e = .returned (.tuple #[.int .i64 (skipE l z).1, .bool (skipE l z).2]) ∧ Below w.heap.size w w' := by
  by_cases h : z < 0 ∨ (l.length : Int) ≤ z
  · exact skip_big l v z _ w hI h
  · obtain ⟨p, rfl⟩ := Int.eq_ofNat_of_zero_le (show 0 ≤ z by omega)
    rcases hI.form with ⟨_, rfl⟩ | ⟨b, off, cap, rfl, hb, hc⟩
    · simp at h
    · exact skip_at l b off cap p w hI (hcap _ _ rfl) (by omega)

set_option maxHeartbeats 2000000 in
theorem skipR_big (l : List It) (v : Value) (z : Int) (B : Nat) (w : World) (hI : ItemsAt w B v l) (h : z < 0 ∨ (l.length : Int) ≤ z) :
    Calls Tryd.prog 26 #[v, .int .i64 z] w fun e w' => e = .returned (.tuple #[.int .i64 (skipE l z).1, .bool (skipE l z).2]) ∧ Below w.heap.size w w' := by
  rw [skip_out h]
  obtain ⟨a, cap, rfl⟩ : ∃ a cap, v = .slice a l.length cap := by
    rcases hI.form with ⟨rfl, rfl⟩ | ⟨b, off, cap, rfl, _⟩
    · exact ⟨none, 0, rfl⟩
    · exact ⟨_, cap, rfl⟩
  clear hI
  generalize l.length = n at *
  by_cases hz : z < 0
  · clear h
    go_enter Tryd.func26, Tryd.ntmps26
    go_wp2
    go_ret2
    exact ⟨rfl, Below.refl _ _⟩
  · have hz2 : (n : Int) ≤ z := by omega
    clear h
    go_enter Tryd.func26, Tryd.ntmps26
    go_wp2
    go_ret2
    exact ⟨rfl, Below.refl _ _⟩

theorem wrap_dec (m : Int) (h1 : 1 ≤ m) (h2 : m ≤ 2000000000000000000) : IntKind.u64.wrap (m - 1) = m - 1 := by
  rw [IntKind.wrap_u64]; omega

set_option maxHeartbeats 2000000 in
theorem skipR_at (l : List It) (b off cap p : Nat) (w : World) (hI : ItemsAt w w.heap.size (.slice (some ⟨b, off, none⟩) l.length cap) l) (h : p < l.length) :
    Calls Tryd.prog 26 #[.slice (some ⟨b, off, none⟩) l.length cap, .int .i64 p] w fun e w' => e = .returned (.tuple #[.int .i64 (skipE l p).1, .bool (skipE l p).2]) ∧ Below w.heap.size w w' := by
  rw [skip_in h]
  obtain ⟨r, hr⟩ : ∃ r, skipGo (l.drop p) 1 p = r := ⟨_, rfl⟩
  rw [hr]
  have HR := Lib.hid hr
  have hlen := hI.len
  have HOK := Lib.hid hI.ok
  have HC := Lib.hid (items_cells hI).2
  have hb := (items_cells hI).1 (by omega)
  clear hr hI
  obtain ⟨n, hn⟩ : ∃ n, l.length = n := ⟨_, rfl⟩
  rw [hn] at h hlen ⊢
  have HN := Lib.hid hn
  clear hn
  have hd1 : decide (n ≤ p) = false := decide_eq_false (by omega)
  have hd2 : decide ((p : Int) < 0) = false := decide_eq_false (by omega)
  go_enter Tryd.func26, Tryd.ntmps26
  go_wp2_with fail
  go_loopw [1, 6] (fun i ms wr => ∃ j : Nat, ∃ m : Int, i = .int .i64 (p + j : Nat) ∧ ms = .int .u64 m ∧ p + j ≤ n ∧ 0 ≤ m ∧ m ≤ 1 + 1024 * (j : Int) ∧ (0 < m → skipGo (l.drop (p + j)) m (p + j) = r) ∧ (m = 0 → (((p + j : Nat) : Int), true) = r) ∧ Below w.heap.size w wr) (fun i _ _ => n - (intOf i).toNat)
  case atStart => exact ⟨0, 1, rfl, rfl, by omega, by omega, by omega, fun _ => HR.out, fun h => absurd h (by decide), Below.refl _ _⟩
  case round =>
    obtain ⟨j, m, rfl, rfl, hj, hm1, hm2, hgo, hgo0, hbk⟩ := hrel
    have hsz := hbk.size
    have hblt : b < wr.heap.size := Nat.lt_of_lt_of_le hb hsz
    by_cases hm0 : m = 0
    · subst hm0
      have hr := hgo0 rfl
      subst hr
      have HB := Lib.hid hbk
      clear hgo hgo0 hbk
      go_wp2
      go_ret2
      exact ⟨rfl, HB.out⟩
    · have hgo := hgo (by omega)
      clear hgo0
      by_cases hlt : p + j < n
      · have hi : p + j < l.length := by rw [HN.out]; omega
        obtain ⟨c0, c1, c2⟩ := HC.out (p + j) hi
        have d0 := (hbk.cell (p := ⟨b, off + (p + j) * 3, none⟩) hb).trans c0
        have d1 := (hbk.cell (p := ⟨b, off + (p + j) * 3 + 1, none⟩) hb).trans c1
        have d2 := (hbk.cell (p := ⟨b, off + (p + j) * 3 + 2, none⟩) hb).trans c2
        have hx := HOK.out _ (List.getElem_mem hi)
        rw [drop_at hi] at hgo
        generalize l[p + j] = x at *
        have HGO := Lib.hid hgo
        have HB := Lib.hid hbk
        clear hgo hbk c0 c1 c2
        obtain ⟨k, q, d⟩ := x
        dsimp only at d0 d1 d2 hx
        obtain ⟨P, hP⟩ : ∃ P, p + j = P := ⟨_, rfl⟩
        rw [hP] at d0 d1 d2 hlt HGO ⊢
        have hw1 := wrap_dec m (by omega) (by omega)
        rcases htm : tooManyB k q with _ | _
        · have hps := parts_small (x := ⟨k, q, d⟩) hx.1 htm
          dsimp only at hps
          have hHGO := HGO.out
          obtain ⟨M, hM⟩ : ∃ M, m - 1 + partsN k q = M := ⟨_, rfl⟩
          have hfin : (0 < M → skipGo (l.drop (P + 1)) M (P + 1) = r) ∧ (M = 0 → (((P : Int) + 1), true) = r) := by
            refine ⟨fun h0 => ?_, fun h0 => ?_⟩
            · rw [skipGo_on htm (by dsimp only; omega)] at hHGO
              dsimp only at hHGO
              rw [hM] at hHGO
              exact hHGO
            · rw [skipGo_end htm (by dsimp only; omega)] at hHGO
              exact hHGO
          have HF := Lib.hid hfin
          have HP := Lib.hid hP
          have hMb : 0 ≤ M ∧ M ≤ 1 + 1024 * ((j : Int) + 1) := by omega
          clear hfin hHGO hgo hi HGO
          by_cases h5 : k = 5
          · subst h5
            have hq := hps.2.2 (.inl rfl)
            have hM5 : m - 1 + q = M := hM
            have hw2 : IntKind.u64.wrap (m - 1 + q) = M := by rw [IntKind.wrap_u64]; omega
            clear hP hps hM
            go_wp2
            go_roundw
            case rel => exact ⟨j + 1, M, by rw [← HP.out]; go_num, rfl, by have := HP.out; omega, by omega, by omega, by rw [← Nat.add_assoc, HP.out]; exact HF.out.1, by rw [← Nat.add_assoc, HP.out]; exact HF.out.2, HB.out.alloc hsz _⟩
            case measure => (simp [intOf] <;> omega)
          · by_cases h6 : k = 6
            · subst h6
              have hq := hps.2.2 (.inr rfl)
              have hM5 : m - 1 + 2 * q = M := hM
              have hw0 : IntKind.u64.wrap (2 * q) = 2 * q := by rw [IntKind.wrap_u64]; omega
              have hw2 : IntKind.u64.wrap (m - 1 + 2 * q) = M := by rw [IntKind.wrap_u64]; omega
              clear hP hps hM
              go_wp2
              go_roundw
              case rel => exact ⟨j + 1, M, by rw [← HP.out]; go_num, rfl, by have := HP.out; omega, by omega, by omega, by rw [← Nat.add_assoc, HP.out]; exact HF.out.1, by rw [← Nat.add_assoc, HP.out]; exact HF.out.2, HB.out.alloc hsz _⟩
              case measure => (simp [intOf] <;> omega)
            · have hM5 : m - 1 = M := by rw [← hM]; simp [partsN, h5, h6]
              clear hP hps hM
              go_wp2
              go_roundw
              case rel => exact ⟨j + 1, M, by rw [← HP.out]; go_num, rfl, by have := HP.out; omega, by omega, by omega, by rw [← Nat.add_assoc, HP.out]; exact HF.out.1, by rw [← Nat.add_assoc, HP.out]; exact HF.out.2, HB.out.alloc hsz _⟩
              case measure => (simp [intOf] <;> omega)
        · have hHGO := HGO.out
          rw [skipGo_many htm] at hHGO
          subst hHGO
          have hq : (k = 5 ∨ k = 6) ∧ 512 < q := by
            unfold tooManyB at htm
            simpa using htm
          clear HGO hgo
          rcases hq with ⟨rfl | rfl, hq⟩
          · go_wp2
            go_ret2
            exact ⟨rfl, HB.out.alloc hsz _⟩
          · go_wp2
            go_ret2
            exact ⟨rfl, HB.out.alloc hsz _⟩
      · have hj2 : p + j = n := by omega
        rw [List.drop_eq_nil_of_le (by rw [HN.out]; omega)] at hgo
        have hgo2 : ((0 : Int), false) = r := hgo
        subst hgo2
        have HB := Lib.hid hbk
        clear hgo hbk
        rw [hj2]
        go_wp2
        go_ret2
        exact ⟨rfl, HB.out⟩
end Go.Proofs.YtepinmeidjlmmaaDoor

/- What the reference walks over is what Skip goes over (plain). -/
namespace Go.Proofs.YtepinmeidjlmmaaDoor
open Go.RowKit

def skipTo (l : List It) (m : Int) (a : Nat) : Int × Bool := if m = 0 then ((a : Int), true) else skipGo (l.drop a) m a
theorem skipTo_zero (l : List It) (a : Nat) : skipTo l 0 a = ((a : Int), true) := if_pos rfl
/-- Skip goes from a to q -/
structure SkipsTo (l : List It) (a q : Nat) : Prop where
  go : ∀ m : Int, 0 ≤ m → skipTo l (m + 1) a = skipTo l m q
  lt : a < q
  le : q ≤ l.length
theorem SkipsTo.skip {l : List It} {a q : Nat} (h : SkipsTo l a q) : skipE l a = ((q : Int), true) := by
  have h1 := h.lt
  have h2 := h.le
  rw [skip_in (by omega)]
  have h3 := h.go 0 (by omega)
  rw [skipTo_zero] at h3
  rw [← h3]
  rfl
theorem skipTo_item {l : List It} {a : Nat} {x : It} (hx : l[a]? = some x) (ht : tooManyB x.k x.n = false) (hn : 0 ≤ x.n) (m : Int) (hm : 0 ≤ m) : skipTo l (m + 1) a = skipTo l (m + partsN x.k x.n) (a + 1) := by
  have ha : a < l.length := (List.getElem?_eq_some_iff.1 hx).1
  have hx' : l[a] = x := (List.getElem?_eq_some_iff.1 hx).2
  have hp := parts_small hn ht
  unfold skipTo
  rw [if_neg (by omega), drop_at ha, hx']
  by_cases hz : m + partsN x.k x.n = 0
  · rw [skipGo_end ht (by omega), if_pos hz]
    rfl
  · rw [skipGo_on ht (by omega), if_neg hz, show m + 1 - 1 + partsN x.k x.n = m + partsN x.k x.n by omega]

theorem loop_skip (W : Nat → Bool → ByteArray → Nat × Int) (l : List It) (mp : Bool) (hW : ∀ a k b, (W a k b).2 = 0 → SkipsTo l a (W a k b).1) : ∀ (c a : Nat) (last : ByteArray), a ≤ l.length → (loopE W l mp c a last).2 = 0 →
    (∀ m : Int, 0 ≤ m → skipTo l (m + (if mp = true then 2 * (c : Int) else c)) a = skipTo l m (loopE W l mp c a last).1) ∧ a ≤ (loopE W l mp c a last).1 ∧ (loopE W l mp c a last).1 ≤ l.length := by
  intro c
  induction c with
  | zero =>
    intro a last ha _
    refine ⟨fun m hm => ?_, Nat.le_refl _, ha⟩
    simp [loopE]
  | succ c ih =>
    intro a last ha h
    rw [loopE] at h ⊢
    cases mp with
    | true =>
      simp only [if_true] at h ⊢ ih
      by_cases h1 : (W a true last).2 = 0
      · rw [if_neg (by simp [h1])] at h ⊢
        by_cases h2 : (W (W a true last).1 false ⟨#[]⟩).2 = 0
        · rw [if_neg (by simp [h2])] at h ⊢
          have s1 := hW _ _ _ h1
          have s2 := hW _ _ _ h2
          obtain ⟨i1, i2, i3⟩ := ih _ _ s2.le h
          have g1 := s1.lt
          have g2 := s2.lt
          refine ⟨fun m hm => ?_, by omega, i3⟩
          rw [show m + 2 * ((c + 1 : Nat) : Int) = (m + 2 * (c : Int) + 1) + 1 by omega, s1.go _ (by omega), s2.go _ (by omega), i1 m hm]
        · rw [if_pos h2] at h; exact absurd h h2
      · rw [if_pos h1] at h; exact absurd h h1
    | false =>
      simp only [Bool.false_eq_true, if_false] at h ⊢ ih
      by_cases h1 : (W a false ⟨#[]⟩).2 = 0
      · rw [if_neg (by simp [h1])] at h ⊢
        have s1 := hW _ _ _ h1
        obtain ⟨i1, i2, i3⟩ := ih _ _ s1.le h
        have g1 := s1.lt
        refine ⟨fun m hm => ?_, by omega, i3⟩
        rw [show m + ((c + 1 : Nat) : Int) = (m + (c : Int)) + 1 by omega, s1.go _ (by omega), i1 m hm]
      · rw [if_pos h1] at h; exact absurd h h1

theorem large_many {k n : Int} {d : ByteArray} (h : tooLargeB k (argN k n d) = false) : tooManyB k n = false := by
  unfold tooLargeB argN at h
  simp only [Bool.or_eq_false_iff] at h
  by_cases hd : hasDataB k = true
  · unfold hasDataB at hd
    unfold tooManyB
    have hk : k ≠ 5 ∧ k ≠ 6 := by simp at hd; omega
    simp [hk.1, hk.2]
  · rw [if_neg hd] at h
    exact h.2

theorem walk_skip (l : List It) (hpos : ∀ x ∈ l, 0 ≤ x.n) : ∀ (f a dep : Nat) (key : Bool) (bf : ByteArray), (walkE f l a dep key bf).2 = 0 → SkipsTo l a (walkE f l a dep key bf).1 := by
  intro f
  induction f with
  | zero => intro a dep key bf h; simp [walkE] at h
  | succ f ih =>
    intro a dep key bf h
    obtain ⟨x, hx, hc⟩ := walkE_ok h
    have ha : a < l.length := (List.getElem?_eq_some_iff.1 hx).1
    have hn : 0 ≤ x.n := hpos x (List.mem_of_getElem? hx)
    have hz := checkR_zero hc
    have ht := large_many hz.2.2.2.2.2.2.1
    by_cases hk : x.k = 5 ∨ x.k = 6
    · rw [walkE_nest hx hc hk] at h ⊢
      obtain ⟨i1, i2, i3⟩ := loop_skip _ l (x.k == 6) (fun a2 k2 b2 h2 => ih a2 (dep + 1) k2 b2 h2) _ _ _ (by omega) h
      refine ⟨fun m hm => ?_, by omega, i3⟩
      rw [skipTo_item hx ht hn m hm, ← i1 m hm]
      congr 2
      rcases hk with h5 | h6
      · rw [h5]
        simp [partsN]
        omega
      · rw [h6]
        simp [partsN]
        omega
    · rw [walkE_leaf hx hc hk]
      refine ⟨fun m hm => ?_, by omega, by show a + 1 ≤ l.length; omega⟩
      rw [skipTo_item hx ht hn m hm]
      congr 1
      unfold partsN
      rw [if_neg (by omega), if_neg (by omega)]
      omega

/-- Skip over a valid list -/
theorem valid_skip (l : List It) (hpos : ∀ x ∈ l, 0 ≤ x.n) (h : validE l = 0) : skipE l 0 = ((l.length : Int), true) := by
  rw [valid_same l hpos] at h
  unfold validR at h
  by_cases he : (walkE 10 l 0 0 false ⟨#[]⟩).2 = 0
  · rw [if_neg (by simp [he])] at h
    have s := walk_skip l hpos 10 0 0 false ⟨#[]⟩ he
    by_cases hl : (walkE 10 l 0 0 false ⟨#[]⟩).1 < l.length
    · rw [if_pos hl] at h; cases h
    · have e : (walkE 10 l 0 0 false ⟨#[]⟩).1 = l.length := by have := s.le; omega
      have := s.skip
      rw [e] at this
      exact this
  · rw [if_pos he] at h; exact absurd h he
end Go.Proofs.YtepinmeidjlmmaaDoor

/- The law CborSkips, walked. -/
namespace Go.Proofs.YtepinmeidjlmmaaDoor
open Go.RowKit
set_option maxRecDepth 100000

theorem skipR_any (l : List It) (v : Value) (z : Int) (w : World) (hI : ItemsAt w w.heap.size v l) :
    Calls Tryd.prog 26 #[v, .int .i64 z] w fun e w' => e = .returned (.tuple #[.int .i64 (skipE l z).1, .bool (skipE l z).2]) ∧ Below w.heap.size w w' := by
  by_cases h : z < 0 ∨ (l.length : Int) ≤ z
  · exact skipR_big l v z _ w hI h
  · obtain ⟨p, rfl⟩ := Int.eq_ofNat_of_zero_le (show 0 ≤ z by omega)
    rcases hI.form with ⟨_, rfl⟩ | ⟨b, off, cap, rfl, hb, hc⟩
    · simp at h
    · exact skipR_at l b off cap p w hI (by omega)

abbrev SkP (w : World) (r : Int × Bool) (e : Ending) (w' : World) : Prop := e = .returned (.tuple #[.int .i64 r.1, .bool r.2]) ∧ Below w.heap.size w w'
set_option maxHeartbeats 1000000 in
theorem skip_none (a : Option Addr) (cap : Nat) (z : Int) (w : World) : Calls Tryd.prog 25 #[.slice a 0 cap, .int .i64 z] w (SkP w (0, false)) := by
  by_cases hz : z < 0
  · go_enter Tryd.func25, Tryd.ntmps25
    go_wp2
    go_ret2
    exact ⟨rfl, Below.refl _ _⟩
  · go_enter Tryd.func25, Tryd.ntmps25
    go_wp2
    go_ret2
    exact ⟨rfl, Below.refl _ _⟩
set_option maxHeartbeats 1000000 in
theorem skipR_none (a : Option Addr) (cap : Nat) (z : Int) (w : World) : Calls Tryd.prog 26 #[.slice a 0 cap, .int .i64 z] w (SkP w (0, false)) := by
  by_cases hz : z < 0
  · go_enter Tryd.func26, Tryd.ntmps26
    go_wp2
    go_ret2
    exact ⟨rfl, Below.refl _ _⟩
  · go_enter Tryd.func26, Tryd.ntmps26
    go_wp2
    go_ret2
    exact ⟨rfl, Below.refl _ _⟩

theorem skips_dark (v : Value) (z : Int) (A : Option Addr) (n cap : Nat) (y : Int) (w : World) (ht : Tabs w) (hL : Calls Tryd.prog 14 #[v] w fun e w' => e = .returned (.bool false) ∧ w = w') :
    Calls Tryd.prog 9 #[v, .int .i64 z, .slice A n cap, .int .i64 y] w fun e w' => e = .returned (.bool true) ∧ Below w.heap.size w w' := by
  have HL := Lib.hid hL
  have HT := Lib.hid (awake_any w ht)
  clear hL ht
  go_enter Tryd.func9, Tryd.ntmps9
  go_wp2_with (first | (go_at_call 14; refine HL.out.mono ?_; rintro e w1 ⟨rfl, rfl⟩) | (go_at_call 15; refine HT.out.mono ?_; rintro e w1 ⟨rfl, hb1⟩) | fail)
  go_ret
  exact ⟨rfl, hb1⟩

set_option maxHeartbeats 2000000 in
theorem skips_law (v : Value) (z : Int) (r : Int × Bool) (A : Option Addr) (n cap : Nat) (l : List Int) (y : Int) (w : World) (h : Ints w A n l) (hn : n ≤ 9223372036854775807) (ht : Tabs w)
    (hL : Calls Tryd.prog 14 #[v] w fun e w' => e = .returned (.bool true) ∧ w = w')
    (hS : ∀ W, Below w.heap.size w W → Calls Tryd.prog 25 #[v, .int .i64 z] W (SkP W r) ∧ Calls Tryd.prog 26 #[v, .int .i64 z] W (SkP W r)) :
    Calls Tryd.prog 9 #[v, .int .i64 z, .slice A n cap, .int .i64 y] w fun e w' => e = .returned (.bool true) ∧ Below w.heap.size w w' := by
  have HC := Lib.hid (Tree_any A n cap l w h hn)
  have HT := Lib.hid ht
  have HL := Lib.hid hL
  have HS := Lib.hid hS
  have hand : bits .and .i64 y 1048575 = y % 1048576 := bits_low 20 (by decide) y
  obtain ⟨m, hm⟩ : ∃ m : Nat, y % 1048576 = m := ⟨(y % 1048576).toNat, by have := Int.emod_nonneg y (show (1048576 : Int) ≠ 0 by decide); omega⟩
  clear h ht hL hS
  go_enter Tryd.func9, Tryd.ntmps9
  go_wp2_with (first | (go_at_call 14; refine HL.out.mono ?_; rintro e w1 ⟨rfl, rfl⟩) | (go_at_call 20; refine HC.out.mono ?_; rintro e w1 ⟨g, c, rfl, ho, hb⟩) | fail)
  have HI := Lib.hid (tree_items ho)
  have hcap := own_cap ho
  have HB1 := Lib.hid hb
  clear ho hb
  refine (spoil_any g 0 c m (treeL l) w1 HI.out (whole_tame l) (treeL_ne l) (Nat.le_trans (treeL_len l) (by decide))).mono ?_
  rintro e w2 ⟨ys, A2, c2, rfl, hI2, hb2, _, hl2, hcp2⟩
  have hs12 := hb2.size
  have HI1 := Lib.hid (HI.out.below hb2)
  have HI2 := Lib.hid hI2
  have HB2 := Lib.hid (HB1.out.trans (hb2.mono HB1.out.size))
  have hs2 := HB2.out.size
  have hx : ∀ W, Below w2.heap.size w2 W → Calls Tryd.prog 25 #[.slice (some ⟨g, 0, none⟩) (treeL l).length c, .int .i64 0] W (SkP W ((treeL l).length, true)) := fun W hW => by
    have h1 := skip_any (treeL l) _ 0 W (itemsAt_mono (HI1.out.below (hW.mono hs12)) (Nat.le_trans hs12 hW.size)) (fun a c' e => by cases e; exact hcap)
    rw [valid_skip _ (fun x hx => (treeL_fine l x hx).1) (tree_valid l)] at h1
    exact h1
  have hy : ∀ W z, Below w2.heap.size w2 W → Calls Tryd.prog 25 #[.slice A2 ys.length c2, .int .i64 z] W (SkP W (skipE ys z)) ∧ Calls Tryd.prog 26 #[.slice A2 ys.length c2, .int .i64 z] W (SkP W (skipE ys z)) := fun W z hW => by
    have hIW := itemsAt_mono (HI2.out.below hW) hW.size
    exact ⟨skip_any ys _ z W hIW (fun a c' e => by cases e; exact hcp2), skipR_any ys _ z W hIW⟩
  have HX := Lib.hid hx
  have HY := Lib.hid hy
  clear hI2 hb2 hx hy hcap hcp2 hl2
  generalize (treeL l).length = N at *
  generalize ys.length = M at *
  go_wp2_with fail
  refine (HS.out _ HB2.out).1.mono ?_
  rintro e w3 ⟨rfl, hb3⟩
  have HB3 := Lib.hid hb3
  have HB3' := Lib.hid (HB2.out.trans (hb3.mono hs2))
  clear hb3
  go_wp2_with fail
  refine (HS.out _ HB3'.out).2.mono ?_
  rintro e w4 ⟨rfl, hb4⟩
  have HB4 := Lib.hid (HB3.out.trans (hb4.mono HB3.out.size))
  clear hb4
  go_wp2_with fail
  refine (HY.out _ _ HB4.out).1.mono ?_
  rintro e w5 ⟨rfl, hb5⟩
  have HB5 := Lib.hid (HB4.out.trans (hb5.mono HB4.out.size))
  clear hb5
  go_wp2_with fail
  refine (HY.out _ _ HB5.out).2.mono ?_
  rintro e w6 ⟨rfl, hb6⟩
  have HB6 := Lib.hid (HB5.out.trans (hb6.mono HB5.out.size))
  clear hb6
  go_wp2_with fail
  refine (HX.out _ HB6.out).mono ?_
  rintro e w7 ⟨rfl, hb7⟩
  have HB7 := Lib.hid (HB6.out.trans (hb7.mono HB6.out.size))
  have HB7' := Lib.hid (HB2.out.trans (HB7.out.mono hs2))
  clear hb7
  go_wp2_with fail
  refine (awake_any _ (HT.out.later HB7'.out)).mono ?_
  rintro e w9 ⟨rfl, hb9⟩
  go_wp2
  go_ret
  exact ⟨rfl, below_aft HB7'.out hb9⟩
end Go.Proofs.YtepinmeidjlmmaaDoor

/- A []api.Item argument, opened, with its capacity. -/
namespace Go.Proofs.YtepinmeidjlmmaaDoor
open Go.ChangeShapes Go.WideShapes Go.ChangeAt Go.RowKit Go.Deep
set_option maxRecDepth 100000

/-- a []api.Item argument, opened -/
theorem open_items_cap {H : Type} {enc : TypeId × Value → H} {W : World} {b0 base : Nat} {r : Reach} {v : Value} {d : DataW H} {ps : List MemPlace} (hval : Value.okWide Tryd.prog W r b0 22 v) (hd : DataW.Trod enc Tryd.prog W base (fun _ => true) true 22 v d ps) :
    ∃ (a : Option Addr) (len cap : Nat), v = .slice a len cap ∧ len ≤ cap ∧ (0 < len → len ≤ 1000 → ∃ l : List It, l.length = len ∧ ItemsAt W W.heap.size v l) := by
  obtain ⟨a0, len, cap, rfl⟩ := okWide_slice Tryd.underlying22 hval
  obtain ⟨fuel, hf⟩ := hd
  have hcap : len ≤ cap := by
    rcases open_slice Tryd.underlying22 hf with ⟨hcs, hx⟩ | ⟨a, len', cap', m, n, D, Pl, hcs, _, hl, hm, hmm, hx, hcell⟩
    · simp [Value.cells] at hcs
      omega
    · simp [Value.cells] at hcs
      obtain ⟨rfl, rfl, rfl⟩ := hcs
      exact hl
  refine ⟨a0, len, cap, rfl, hcap, fun h0 h1 => ?_⟩
  rcases open_slice Tryd.underlying22 hf with ⟨hcs, hx⟩ | ⟨a, len', cap', m, n, D, Pl, hcs, _, hl, hm, hmm, hx, hcell⟩
  · simp [Value.cells] at hcs
    omega
  · simp [Value.cells] at hcs
    obtain ⟨rfl, rfl, rfl⟩ := hcs
    simp only [if_true] at hmm
    subst hmm
    rw [tryd_cells58] at hcell
    have hsp : a.spot = none := by
      obtain ⟨cs', hc1, hc2⟩ := hcell 0 (by omega)
      obtain ⟨_, _, h3⟩ := World.cells?_some hc1
      obtain ⟨k, n, d, rfl, _⟩ := item_cells hc2
      have := h3 0 (by omega)
      have h4 : W.cell? a = some (.int .i64 k) := by simpa [Addr.add] using this
      exact World.cell?_spot h4
    obtain ⟨b, off, spot⟩ := a
    simp only at hsp
    subst hsp
    have hx : ∀ i, i < len → ∃ x : It, (W.cell? ⟨b, off + i * 3, none⟩ = some (.int .i64 x.k) ∧ W.cell? ⟨b, off + i * 3 + 1, none⟩ = some (.int .u64 x.n) ∧ W.cell? ⟨b, off + i * 3 + 2, none⟩ = some (.string x.d)) ∧ 0 ≤ x.n ∧ x.d.size ≤ maxLen := fun i hi => by
      obtain ⟨cs', hc1, hc2⟩ := hcell i (by omega)
      obtain ⟨_, _, h3⟩ := World.cells?_some hc1
      obtain ⟨k, n, d, rfl, hn, hd⟩ := item_cells hc2
      have g0 := h3 0 (by omega)
      have g1 := h3 1 (by omega)
      have g2 := h3 2 (by omega)
      rw [add_add] at g0 g1 g2
      exact ⟨⟨k, n, d⟩, ⟨g0, g1, g2⟩, hn, hd⟩
    haveI : Inhabited It := ⟨⟨0, 0, ⟨#[]⟩⟩⟩
    obtain ⟨V, hV⟩ := choose_lt hx
    refine ⟨(List.range len).map V, by simp, ⟨.inr ⟨b, off, m, by simp, ?_, fun i hi => ?_⟩, fun x hx => ?_, by simp; omega⟩⟩
    · exact cell_lt (hV 0 h0).1.1
    · have hi' : i < len := by simpa using hi
      have e : ((List.range len).map V)[i] = V i := by simp
      rw [e]
      exact (hV i hi').1
    · obtain ⟨i, hi, rfl⟩ := List.mem_map.1 hx
      exact (hV i (by simpa using hi)).2


theorem skips_any (a : Option Addr) (len cap : Nat) (z : Int) (A : Option Addr) (n c : Nat) (l : List Int) (y : Int) (w : World) (hcap : len ≤ cap) (hit : 0 < len → len ≤ 1000 → ∃ l : List It, l.length = len ∧ ItemsAt w w.heap.size (.slice a len cap) l) (h : Ints w A n l) (hn : n ≤ 9223372036854775807) (ht : Tabs w) :
    Calls Tryd.prog 9 #[.slice a len cap, .int .i64 z, .slice A n c, .int .i64 y] w fun e w' => e = .returned (.bool true) ∧ Below w.heap.size w w' := by
  by_cases h1 : 100 < len
  · exact skips_dark _ z A n c y w ht (light_long a len cap w h1)
  by_cases h2 : len = 0
  · subst h2
    exact skips_law _ z (0, false) A n c l y w h hn ht (light0 a cap w) (fun W _ => ⟨skip_none a cap z W, skipR_none a cap z W⟩)
  · obtain ⟨xs, hl, hI⟩ := hit (by omega) (by omega)
    have hL := light_any xs _ w hI (by omega)
    cases hb : (xs.all fun x => decide (x.d.size ≤ 1100)) with
    | false => rw [hb] at hL; exact skips_dark _ z A n c y w ht hL
    | true =>
      rw [hb] at hL
      refine skips_law _ z (skipE xs z) A n c l y w h hn ht hL (fun W hW => ?_)
      have hIW := itemsAt_mono (hI.below hW) hW.size
      exact ⟨skip_any xs _ z W hIW (fun a' c' e => by cases e; omega), skipR_any xs _ z W hIW⟩
end Go.Proofs.YtepinmeidjlmmaaDoor

/- The pairs of a valid map (plain); a part of a list, copied. -/
namespace Go.Proofs.YtepinmeidjlmmaaDoor
open Go.RowKit
set_option maxRecDepth 100000

/-- from a on lie c pairs, to the list's end -/
def PairsAt (l : List It) : Nat → Nat → Prop
  | 0, a => a = l.length
  | c + 1, a => ∃ q, SkipsTo l a (a + 1) ∧ SkipsTo l (a + 1) q ∧ PairsAt l c q
theorem PairsAt.le {l : List It} : ∀ {c a : Nat}, PairsAt l c a → a ≤ l.length
  | 0, _, h => Nat.le_of_eq h
  | c + 1, a, h => by
    obtain ⟨q, h1, h2, _⟩ := h
    have := h1.le
    omega

theorem walk_key {l : List It} {f a dep : Nat} {bf : ByteArray} (h : (walkE f l a dep true bf).2 = 0) : (walkE f l a dep true bf).1 = a + 1 := by
  cases f with
  | zero => simp [walkE] at h
  | succ f =>
    obtain ⟨x, hx, hc⟩ := walkE_ok h
    have hk := (checkR_zero hc).2.2.2.2.1 rfl
    unfold canKeyB at hk
    simp at hk
    rw [walkE_leaf hx hc (by omega)]
theorem loop_pairs (f : Nat) (l : List It) (dep : Nat) (hpos : ∀ x ∈ l, 0 ≤ x.n) : ∀ (c a : Nat) (last : ByteArray), a ≤ l.length → (loopE (fun a2 k2 b2 => walkE f l a2 dep k2 b2) l true c a last).2 = 0 → (loopE (fun a2 k2 b2 => walkE f l a2 dep k2 b2) l true c a last).1 = l.length → PairsAt l c a := by
  intro c
  induction c with
  | zero => intro a last _ _ h2; exact h2
  | succ c ih =>
    intro a last ha h h2
    rw [loopE] at h h2
    simp only [if_true] at h h2
    by_cases h1 : (walkE f l a dep true last).2 = 0
    · rw [if_neg (by simp [h1])] at h h2
      have e1 := walk_key h1
      have s1 := walk_skip l hpos _ _ _ _ _ h1
      rw [e1] at h h2 s1
      by_cases h3 : (walkE f l (a + 1) dep false ⟨#[]⟩).2 = 0
      · rw [if_neg (by simp [h3])] at h h2
        have s2 := walk_skip l hpos _ _ _ _ _ h3
        exact ⟨_, s1, s2, ih _ _ s2.le h h2⟩
      · rw [if_pos h3] at h; exact absurd h h3
    · rw [if_pos h1] at h; exact absurd h h1
/-- a valid map is its pairs -/
theorem valid_pairs (l : List It) (x : It) (hpos : ∀ y ∈ l, 0 ≤ y.n) (h : validE l = 0) (hx : l[0]? = some x) (hk : x.k = 6) : PairsAt l x.n.toNat 1 ∧ x.n ≤ 512 := by
  rw [valid_same l hpos] at h
  unfold validR at h
  by_cases he : (walkE 10 l 0 0 false ⟨#[]⟩).2 = 0
  · rw [if_neg (by simp [he])] at h
    have s := walk_skip l hpos 10 0 0 false ⟨#[]⟩ he
    by_cases hl : (walkE 10 l 0 0 false ⟨#[]⟩).1 < l.length
    · rw [if_pos hl] at h; cases h
    · have e : (walkE 10 l 0 0 false ⟨#[]⟩).1 = l.length := by have := s.le; omega
      obtain ⟨y, hy, hc⟩ := walkE_ok he
      rw [hx] at hy
      cases hy
      rw [walkE_nest hx hc (.inr hk), show (x.k == 6) = true by rw [hk]; rfl] at he e
      have hl1 : 1 ≤ l.length := by have := (List.getElem?_eq_some_iff.1 hx).1; omega
      have ht := large_many (checkR_zero hc).2.2.2.2.2.2.1
      have hn : 0 ≤ x.n := hpos x (List.mem_of_getElem? hx)
      exact ⟨loop_pairs 9 l 1 hpos _ _ _ hl1 he e, (parts_small hn ht).2.2 (.inr hk)⟩
  · rw [if_pos he] at h; exact absurd h he

def lookGo (l : List It) (key : Int) : Nat → Nat → Option (Nat × Nat)
  | 0, _ => none
  | c + 1, a => match l[a]? with
    | none => none
    | some x => if x.k = 1 ∧ x.n = key then some (a + 1, (skipE l (a + 1 : Nat)).1.toNat) else lookGo l key c (skipE l (a + 1 : Nat)).1.toNat
theorem look_hit {l : List It} {key : Int} {c a q : Nat} {x : It} (hx : l[a]? = some x) (hs : SkipsTo l (a + 1) q) (h : x.k = 1 ∧ x.n = key) : lookGo l key (c + 1) a = some (a + 1, q) := by
  rw [lookGo, hx]
  simp only
  rw [if_pos h, hs.skip]
  rfl
theorem look_miss {l : List It} {key : Int} {c a q : Nat} {x : It} (hx : l[a]? = some x) (hs : SkipsTo l (a + 1) q) (h : ¬ (x.k = 1 ∧ x.n = key)) : lookGo l key (c + 1) a = lookGo l key c q := by
  rw [lookGo, hx]
  simp only
  rw [if_neg h, hs.skip]
  rfl
def lookE (l : List It) (key : Int) : Option (Nat × Nat) := if validE l = 0 then match l[0]? with
  | none => none
  | some x => if x.k = 6 then lookGo l key x.n.toNat 1 else none
  else none
def lookL (l : List It) (r : Option (Nat × Nat)) : List It := match r with
  | none => []
  | some (a, q) => (l.drop a).take (q - a)
/-- an answer of Lookup: a new list, and whether there is one -/
def LkP (w : World) (l : List It) (r : Option (Nat × Nat)) (e : Ending) (w' : World) : Prop := ∃ v, e = .returned (.tuple #[v, .bool r.isSome]) ∧ Below w.heap.size w w' ∧ ItemsAt w' w'.heap.size v (lookL l r)
theorem items_nil (w : World) (B : Nat) : ItemsAt w B (.slice none 0 0) [] := ⟨.inl ⟨rfl, rfl⟩, by simp, by simp⟩

theorem ItemsAt.part {w : World} {B b off cap a q c : Nat} {l : List It} (h : ItemsAt w B (.slice (some ⟨b, off, none⟩) l.length cap) l) (h1 : a < q) (h2 : q ≤ l.length) : ItemsAt w B (.slice (some ⟨b, off + a * 3, none⟩) (q - a) c) ((l.drop a).take (q - a)) := by
  have e9 : ((l.drop a).take (q - a)).length = q - a := by simp; omega
  obtain ⟨hlt, hc⟩ := items_cells h
  refine ⟨.inr ⟨b, off + a * 3, c, by rw [e9], hlt (by omega), fun i hi => ?_⟩, fun x hx => h.ok x (List.mem_of_mem_drop (List.mem_of_mem_take hx)), by rw [e9]; have := h.len; omega⟩
  rw [e9] at hi
  have hg : ((l.drop a).take (q - a))[i] = l[a + i] := by simp
  have := hc (a + i) (by omega)
  rw [hg, show off + a * 3 + i * 3 = off + (a + i) * 3 by omega]
  exact this

/-- what Clone and the reference's append leave -/
theorem copied {w' : World} {base m : Nat} {v : Value} {xs : List It} (h : w'.ownsRow base 58 3 v m (itCells xs)) (hm : 0 < m) (hok : ∀ x ∈ xs, 0 ≤ x.n ∧ x.d.size ≤ maxLen) (hl : xs.length ≤ 1000000) : ItemsAt w' w'.heap.size v xs := by
  obtain ⟨g, c, rfl, _⟩ := own_pos h hm
  exact itemsAt_own h hok (by omega)

theorem own_empty (w : World) : (w.alloc (.cells #[] 58)).ownsRow w.heap.size 58 3 (.slice (some ⟨w.heap.size, 0, none⟩) 0 0) 0 (itCells []) :=
  World.ownsRow_lit w #[] 0 (Nat.le_refl _) (by decide) rfl
set_option maxHeartbeats 1000000 in
theorem clone_any (b off cap n : Nat) (xs : List It) (w : World) (hI : ItemsAt w w.heap.size (.slice (some ⟨b, off, none⟩) n cap) xs) (hn : xs.length = n) (h0 : 0 < n) (h1 : n ≤ 1000000) :
    Calls Tryd.prog 48 #[.slice (some ⟨b, off, none⟩) n cap] w fun e w' => ∃ v, e = .returned v ∧ Below w.heap.size w w' ∧ ItemsAt w' w'.heap.size v xs := by
  have HI := Lib.hid hI
  have hne : xs ≠ [] := by
    intro h
    rw [h] at hn
    simp at hn
    omega
  have heq := Lib.run_eql_slice_nil (P := Tryd.prog) w 22 58 (some ⟨b, off, none⟩) n cap 0 0 Tryd.underlying22
  have HO := Lib.hid (own_empty w)
  have HI2 := Lib.hid (HI.out.below ((Below.refl _ w).alloc (Nat.le_refl _) (.cells #[] 58)))
  subst hn
  clear hI
  go_enter Tryd.func48, Tryd.ntmps48
  go_wp2_with (first
    | (at_builtin; refine app_items3 rfl _ _ rfl w.heap.size _ 0 [] xs w.heap.size b off cap HO.out rfl HI2.out rfl hne (by omega) h1 (by simp) ?_; intro v2 w2 ho2 hb2 _)
    | fail)
  go_ret
  have ho3 : w2.ownsRow w.heap.size 58 3 v2 xs.length (itCells xs) := by rw [Nat.zero_add, List.nil_append] at ho2; exact ho2
  exact ⟨_, rfl, ((Below.refl _ w).alloc (Nat.le_refl _) _).trans hb2, copied ho3 h0 HI.out.ok (by omega)⟩
end Go.Proofs.YtepinmeidjlmmaaDoor

/- Lookup of both. -/
namespace Go.Proofs.YtepinmeidjlmmaaDoor
open Go.RowKit
set_option maxRecDepth 100000

abbrev VaP (w : World) (E : Int) (e : Ending) (w' : World) : Prop := e = .returned (.int .i64 E) ∧ Below w.heap.size w w'
theorem LkP.none (w w' : World) (l : List It) (hb : Below w.heap.size w w') : LkP w l none (.returned (.tuple #[.slice none 0 0, .bool false])) w' := ⟨_, rfl, hb, items_nil _ _⟩

set_option maxHeartbeats 1000000 in
theorem look_bad (v : Value) (key E : Int) (l : List It) (w : World) (hE : E ≠ 0) (hV : Calls Tryd.prog 18 #[v] w (VaP w E)) : Calls Tryd.prog 27 #[v, .int .u64 key] w (LkP w l none) := by
  have HV := Lib.hid hV
  clear hV
  go_enter Tryd.func27, Tryd.ntmps27
  go_wp2_with (first | (go_at_call 18; refine HV.out.mono ?_; rintro e w1 ⟨rfl, hb1⟩) | fail)
  go_ret2
  exact LkP.none w w1 l hb1
set_option maxHeartbeats 1000000 in
theorem lookR_bad (v : Value) (key E : Int) (l : List It) (w : World) (hE : E ≠ 0) (hV : Calls Tryd.prog 19 #[v] w (VaP w E)) : Calls Tryd.prog 28 #[v, .int .u64 key] w (LkP w l none) := by
  have HV := Lib.hid hV
  clear hV
  go_enter Tryd.func28, Tryd.ntmps28
  go_wp2_with (first | (go_at_call 19; refine HV.out.mono ?_; rintro e w1 ⟨rfl, hb1⟩) | fail)
  go_ret2
  exact LkP.none w w1 l hb1

set_option maxHeartbeats 1000000 in
theorem look_other (b off n cap : Nat) (k key : Int) (l : List It) (w : World) (hn : 0 < n) (hk : k ≠ 6) (hb : b < w.heap.size) (hc : w.cell? ⟨b, off, none⟩ = some (.int .i64 k)) (hV : Calls Tryd.prog 18 #[.slice (some ⟨b, off, none⟩) n cap] w (VaP w 0)) :
    Calls Tryd.prog 27 #[.slice (some ⟨b, off, none⟩) n cap, .int .u64 key] w (LkP w l none) := by
  have HV := Lib.hid hV
  clear hV
  go_enter Tryd.func27, Tryd.ntmps27
  go_wp2_with (first | (go_at_call 18; refine HV.out.mono ?_; rintro e w1 ⟨rfl, hb1⟩; have hc1 := (hb1.cell (p := ⟨b, off, none⟩) hb).trans hc) | fail)
  go_ret2
  exact LkP.none w w1 l hb1
set_option maxHeartbeats 1000000 in
theorem lookR_other (b off n cap : Nat) (k key : Int) (l : List It) (w : World) (hn : 0 < n) (hk : k ≠ 6) (hb : b < w.heap.size) (hc : w.cell? ⟨b, off, none⟩ = some (.int .i64 k)) (hV : Calls Tryd.prog 19 #[.slice (some ⟨b, off, none⟩) n cap] w (VaP w 0)) :
    Calls Tryd.prog 28 #[.slice (some ⟨b, off, none⟩) n cap, .int .u64 key] w (LkP w l none) := by
  have HV := Lib.hid hV
  clear hV
  go_enter Tryd.func28, Tryd.ntmps28
  go_wp2_with (first | (go_at_call 19; refine HV.out.mono ?_; rintro e w1 ⟨rfl, hb1⟩; have hc1 := (hb1.cell (p := ⟨b, off, none⟩) hb).trans hc) | fail)
  go_ret2
  exact LkP.none w w1 l hb1

set_option maxHeartbeats 2000000 in
theorem look_map (l : List It) (b off cap : Nat) (key : Int) (x0 : It) (w : World) (hI : ItemsAt w w.heap.size (.slice (some ⟨b, off, none⟩) l.length cap) l) (hcap : l.length ≤ cap) (hlen : l.length ≤ 1000) (hx0 : l[0]? = some x0) (hk6 : x0.k = 6)
    (hP : PairsAt l x0.n.toNat 1) (hV : Calls Tryd.prog 18 #[.slice (some ⟨b, off, none⟩) l.length cap] w (VaP w 0)) :
    Calls Tryd.prog 27 #[.slice (some ⟨b, off, none⟩) l.length cap, .int .u64 key] w (LkP w l (lookGo l key x0.n.toNat 1)) := by
  obtain ⟨r, hr⟩ : ∃ r, lookGo l key x0.n.toNat 1 = r := ⟨_, rfl⟩
  rw [hr]
  have hl0 : 0 < l.length := (List.getElem?_eq_some_iff.1 hx0).1
  obtain ⟨hb0, hcells⟩ := items_cells hI
  have hb := hb0 hl0
  have hc0 := (hcells 0 hl0).1
  have e0 : l[0] = x0 := (List.getElem?_eq_some_iff.1 hx0).2
  rw [e0, hk6] at hc0
  simp only [Nat.zero_mul, Nat.add_zero] at hc0
  have HSK := Lib.hid (fun (W : World) (z : Int) (hW : Below w.heap.size w W) => skip_any l (.slice (some ⟨b, off, none⟩) l.length cap) z W (itemsAt_mono (hI.below hW) hW.size) (fun a c e => by cases e; exact hcap))
  have HI := Lib.hid hI
  have HC := Lib.hid hcells
  have HP := Lib.hid hP
  have HV := Lib.hid hV
  have HR := Lib.hid hr
  generalize x0.n.toNat = N at *
  obtain ⟨n, hn⟩ : ∃ n, l.length = n := ⟨_, rfl⟩
  rw [hn] at hcap hlen hl0 ⊢
  rw [hn] at HSK HV HI
  have HN := Lib.hid hn
  clear hn hI hcells hP hV hr e0 hk6 hx0 hb0
  go_enter Tryd.func27, Tryd.ntmps27
  go_wp2_with (first | (go_at_call 18; refine HV.out.mono ?_; rintro e w1 ⟨rfl, hb1⟩; have hc1 := (hb1.cell (p := ⟨b, off, none⟩) hb).trans hc0) | fail)
  have HB1 := Lib.hid hb1
  clear hb1 hc1 hc0
  go_loopw [6] (fun i wr => ∃ a c : Nat, i = .int .i64 a ∧ a ≤ n ∧ PairsAt l c a ∧ lookGo l key c a = r ∧ Below w.heap.size w wr) (fun i _ => n - (intOf i).toNat)
  case atStart => exact ⟨1, N, rfl, by omega, HP.out, HR.out, HB1.out⟩
  case round =>
    obtain ⟨a, c, rfl, han, hpa, hgo, hbk⟩ := hrel
    have hsz := hbk.size
    cases c with
    | zero =>
      have ha : a = n := by rw [← HN.out]; exact hpa
      have hr : none = r := hgo
      subst hr
      have HB := Lib.hid hbk
      clear hpa hgo hbk
      go_wp2
      go_ret2
      exact LkP.none w wr l HB.out
    | succ c =>
      obtain ⟨q, s1, s2, hpq⟩ := hpa
      have hlt := s2.lt
      have hle := s2.le
      have hal : a < l.length := by omega
      have hql : q ≤ n := by rw [← HN.out]; exact hle
      have hx : l[a]? = some l[a] := List.getElem?_eq_getElem hal
      obtain ⟨c0, c1, c2⟩ := HC.out a hal
      have d0 := (hbk.cell (p := ⟨b, off + a * 3, none⟩) hb).trans c0
      have d1 := (hbk.cell (p := ⟨b, off + a * 3 + 1, none⟩) hb).trans c1
      have hskip := HSK.out wr ((a + 1 : Nat) : Int) hbk
      rw [s2.skip, show ((a + 1 : Nat) : Int) = (a : Int) + 1 from by omega] at hskip
      dsimp only at hskip
      have HS := Lib.hid hskip
      generalize l[a] = x at *
      have hHIT := look_hit (key := key) (c := c) hx s2
      have hMISS := look_miss (key := key) (c := c) hx s2
      obtain ⟨k, m, d⟩ := x
      dsimp only at d0 d1 hHIT hMISS
      have HHIT := Lib.hid hHIT
      have HMISS := Lib.hid hMISS
      have HPQ := Lib.hid hpq
      have HGO := Lib.hid hgo
      have HB := Lib.hid hbk
      clear hpq hgo hbk hx c0 c1 c2 s1 s2 hskip hHIT hMISS
      by_cases hk : k = 1
      · subst hk
        by_cases hm : m = key
        · subst hm
          have hr : some (a + 1, q) = r := by rw [← HGO.out, HHIT.out ⟨rfl, rfl⟩]
          subst hr
          go_wp2_with (first | (go_at_call 25; refine HS.out.mono ?_; rintro e w2 ⟨rfl, hb2⟩; have d3 := (hb2.cell (p := ⟨b, off + a * 3, none⟩) (by exact Nat.lt_of_lt_of_le hb hsz)).trans d0; have d4 := (hb2.cell (p := ⟨b, off + a * 3 + 1, none⟩) (by exact Nat.lt_of_lt_of_le hb hsz)).trans d1) | fail)
          have HB2 := Lib.hid (HB.out.trans (hb2.mono hsz))
          have hI2 := itemsAt_mono (HI.out.below HB2.out) HB2.out.size
          rw [← HN.out] at hI2
          have hpart := hI2.part (c := cap - (a + 1)) hlt hle
          have hsub : ((l.drop (a + 1)).take (q - (a + 1))).length = q - (a + 1) := by simp; omega
          refine (clone_any b _ _ (q - (a + 1)) _ w2 hpart hsub (by omega) (by omega)).mono ?_
          rintro e w3 ⟨v3, rfl, hb3, hI3⟩
          go_wp2
          go_ret2
          exact ⟨_, rfl, HB2.out.trans (hb3.mono HB2.out.size), hI3⟩
        · have hr := HGO.out
          rw [HMISS.out (fun h => hm h.2)] at hr
          have HR2 := Lib.hid hr
          have hm2 : (m == key) = false := by simpa using hm
          clear hr
          go_wp2_with (first | (go_at_call 25; refine HS.out.mono ?_; rintro e w2 ⟨rfl, hb2⟩; have d3 := (hb2.cell (p := ⟨b, off + a * 3, none⟩) (by exact Nat.lt_of_lt_of_le hb hsz)).trans d0; have d4 := (hb2.cell (p := ⟨b, off + a * 3 + 1, none⟩) (by exact Nat.lt_of_lt_of_le hb hsz)).trans d1) | fail)
          go_roundw
          case rel => exact ⟨q, c, rfl, hql, HPQ.out, HR2.out, HB.out.trans (hb2.mono hsz)⟩
          case measure => (simp [intOf] <;> omega)
      · have hr := HGO.out
        rw [HMISS.out (fun h => hk h.1)] at hr
        have HR2 := Lib.hid hr
        clear hr
        go_wp2_with (first | (go_at_call 25; refine HS.out.mono ?_; rintro e w2 ⟨rfl, hb2⟩; have d3 := (hb2.cell (p := ⟨b, off + a * 3, none⟩) (by exact Nat.lt_of_lt_of_le hb hsz)).trans d0; have d4 := (hb2.cell (p := ⟨b, off + a * 3 + 1, none⟩) (by exact Nat.lt_of_lt_of_le hb hsz)).trans d1) | fail)
        go_roundw
        case rel => exact ⟨q, c, rfl, hql, HPQ.out, HR2.out, HB.out.trans (hb2.mono hsz)⟩
        case measure => (simp [intOf] <;> omega)
end Go.Proofs.YtepinmeidjlmmaaDoor
