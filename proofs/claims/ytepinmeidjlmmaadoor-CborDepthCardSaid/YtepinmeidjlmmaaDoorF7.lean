import Derived.Test.YtepinmeidjlmmaaDoorF6
namespace Go.Proofs.YtepinmeidjlmmaaDoor
open Go.RowKit

set_option maxRecDepth 100000 in
set_option maxHeartbeats 400000 in
theorem light_long (a : Option Addr) (len cap : Nat) (w : World) (h : 100 < len) : Calls Tryd.prog 14 #[.slice a len cap] w fun e w' => e = .returned (.bool false) ∧ w = w' := by
  have h1 : (100 : Int) < (len : Int) := by omega
  go_enter Tryd.func14, Tryd.ntmps14
  go_wp2
  go_ret
  exact ⟨rfl, rfl⟩

set_option maxRecDepth 100000 in
set_option maxHeartbeats 400000 in
theorem light_any (l : List It) (v : Value) (w : World) (hI : ItemsAt w w.heap.size v l) (h : l.length ≤ 100) :
    Calls Tryd.prog 14 #[v] w fun e w' => e = .returned (.bool (l.all fun x => decide (x.d.size ≤ 1100))) ∧ w = w' := by
  rcases hI.form with ⟨rfl, rfl⟩ | ⟨b, off, cap, rfl, hb, hcells⟩
  · clear hI
    go_enter Tryd.func14, Tryd.ntmps14
    go_wp2_with fail
    refine wp_loop_rounds 1 ?_
    rw [rounds_succ]
    go_wp2
    go_ret
    exact ⟨rfl, rfl⟩
  · have h1 : (l.length : Int) ≤ 100 := by omega
    have HC := Lib.hid hcells
    clear hI hcells
    go_enter Tryd.func14, Tryd.ntmps14
    go_wp2_with fail
    go_loopw [3] (fun i wr => ∃ j : Nat, j ≤ l.length ∧ i = .int .i64 j ∧ w = wr ∧ ∀ i (h : i < l.length), i < j → l[i].d.size ≤ 1100) (fun i _ => l.length - (intOf i).toNat)
    case atStart => exact ⟨0, by omega, rfl, rfl, by intro i h1 h2; omega⟩
    case round =>
      obtain ⟨j, hj, rfl, rfl, hall⟩ := hrel
      have HALL := Lib.hid hall
      clear hall
      by_cases hlt : j < l.length
      · obtain ⟨q0, q1, q2⟩ := HC.out j hlt
        have hxe : Hid (∃ x, l[j] = x) := ⟨_, rfl⟩
        by_cases hs : l[j].d.size ≤ 1100
        · have HN : Hid (∀ i (h : i < l.length), i < j + 1 → l[i].d.size ≤ 1100) := fun i h1 h2 => by
            by_cases e : i = j
            · subst e; exact hs
            · exact HALL.out i h1 (by omega)
          have hs2 : (l[j].d.size : Int) ≤ 1100 := by omega
          generalize l[j] = x at q0 q1 q2 hs hs2
          go_wp2_with fail
          go_roundw
          case rel => exact ⟨j + 1, by omega, by go_num, by first | rfl | trivial, HN.out⟩
          case measure => simp [intOf]; omega
        · have HN : Hid ((l.all fun x => decide (x.d.size ≤ 1100)) = false) := by
            show (l.all fun x => decide (x.d.size ≤ 1100)) = false
            rw [List.all_eq_false]
            exact ⟨l[j], List.getElem_mem hlt, by simpa using hs⟩
          have hs2 : (1100 : Int) < (l[j].d.size : Int) := by omega
          generalize l[j] = x at q0 q1 q2 hs hs2
          go_wp2
          go_ret
          exact ⟨by rw [HN.out]; rfl, rfl⟩
      · have HN : Hid ((l.all fun x => decide (x.d.size ≤ 1100)) = true) := by
          show (l.all fun x => decide (x.d.size ≤ 1100)) = true
          rw [List.all_eq_true]
          intro x hx
          obtain ⟨i, hi, rfl⟩ := List.mem_iff_getElem.1 hx
          have := HALL.out i hi (by omega)
          simpa using this
        go_wp2
        go_ret
        exact ⟨by rw [HN.out]; rfl, rfl⟩

set_option maxRecDepth 100000 in
set_option maxHeartbeats 400000 in
/-- a list that is not light: the law answers what 'awake' answers -/
theorem validates_dark (v : Value) (w : World) (ht : Tabs w) (hL : Calls Tryd.prog 14 #[v] w fun e w' => e = .returned (.bool false) ∧ w = w') : Calls Tryd.prog 3 #[v] w fun e w' => e = .returned (.bool true) ∧ Below w.heap.size w w' := by
  have HA := Lib.hid (awake_any w ht)
  have HL := Lib.hid hL
  clear ht hL
  go_enter Tryd.func3, Tryd.ntmps3
  go_wp2_with (first | (go_at_call 14; refine HL.out.mono ?_; rintro e w1 ⟨rfl, rfl⟩) | (go_at_call 15; refine HA.out.mono ?_; rintro e w1 ⟨rfl, hb1⟩))
  go_ret
  exact ⟨rfl, hb1⟩

theorem conv_nil (W : World) : (convert 25 9 (.slice none 0 0)).run Tryd.prog W = .ok (.string ByteArray.empty) W := run_convert_bytes_nil W 25 5 Tryd.underlying25 Tryd.underlying5 0 0 9 Tryd.underlying9

set_option maxRecDepth 100000 in
set_option maxHeartbeats 1000000 in
theorem validates_bad (v : Value) (E : Int) (w : World) (hE : E ≠ 0) (hL : Calls Tryd.prog 14 #[v] w fun e w' => e = .returned (.bool true) ∧ w = w')
    (hA : ∀ W, Below w.heap.size w W → Calls Tryd.prog 15 #[] W fun e w' => e = .returned (.bool true) ∧ Below W.heap.size W w')
    (h16 : ∀ W, Below w.heap.size w W → Calls Tryd.prog 16 #[v] W fun e w' => e = .returned (.tuple #[.slice none 0 0, .int .i64 E]) ∧ Below W.heap.size W w')
    (h17 : ∀ W, Below w.heap.size w W → Calls Tryd.prog 17 #[v] W fun e w' => e = .returned (.tuple #[.slice none 0 0, .int .i64 E]) ∧ Below W.heap.size W w')
    (h18 : ∀ W, Below w.heap.size w W → Calls Tryd.prog 18 #[v] W fun e w' => e = .returned (.int .i64 E) ∧ Below W.heap.size W w')
    (h19 : ∀ W, Below w.heap.size w W → Calls Tryd.prog 19 #[v] W fun e w' => e = .returned (.int .i64 E) ∧ Below W.heap.size W w') :
    Calls Tryd.prog 3 #[v] w fun e w' => e = .returned (.bool true) ∧ Below w.heap.size w w' := by
  have HL := Lib.hid hL
  have HA := Lib.hid hA
  have H16 := Lib.hid h16
  have H17 := Lib.hid h17
  have H18 := Lib.hid h18
  have H19 := Lib.hid h19
  have hcn := conv_nil
  clear hL hA h16 h17 h18 h19
  go_enter Tryd.func3, Tryd.ntmps3
  go_wp2_with (go_at_call 14; refine HL.out.mono ?_; rintro e w1 ⟨rfl, rfl⟩)
  refine (H16.out _ (Below.refl _ _)).mono ?_
  rintro e w2 ⟨rfl, hb2⟩
  go_wp2_with fail
  refine (H17.out _ hb2).mono ?_
  rintro e w3 ⟨rfl, hb3⟩
  have hB3 := below_aft hb2 hb3
  go_wp2_with fail
  refine (H18.out _ hB3).mono ?_
  rintro e w4 ⟨rfl, hb4⟩
  have hB4 := below_aft hB3 hb4
  go_wp2_with fail
  refine (H19.out _ hB4).mono ?_
  rintro e w5 ⟨rfl, hb5⟩
  have hB5 := below_aft hB4 hb5
  go_wp2_with fail
  refine (HA.out _ hB5).mono ?_
  rintro e w6 ⟨rfl, hb6⟩
  go_wp2
  go_ret
  exact ⟨rfl, below_aft hB5 hb6⟩

set_option maxRecDepth 100000 in
set_option maxHeartbeats 1000000 in
theorem validates_good (v : Value) (l1 l2 : List Int) (w : World) (hp1 : 0 < l1.length) (hp2 : 0 < l2.length) (hsame : strOfNums l2 = strOfNums l1) (hL : Calls Tryd.prog 14 #[v] w fun e w' => e = .returned (.bool true) ∧ w = w')
    (hA : ∀ W, Below w.heap.size w W → Calls Tryd.prog 15 #[] W fun e w' => e = .returned (.bool true) ∧ Below W.heap.size W w')
    (h16 : ∀ W, Below w.heap.size w W → Calls Tryd.prog 16 #[v] W fun e w' => ∃ v', e = .returned (.tuple #[v', .int .i64 0]) ∧ NewBytes W l1 v' w')
    (h17 : ∀ W, Below w.heap.size w W → Calls Tryd.prog 17 #[v] W fun e w' => ∃ v', e = .returned (.tuple #[v', .int .i64 0]) ∧ NewBytes W l2 v' w')
    (h18 : ∀ W, Below w.heap.size w W → Calls Tryd.prog 18 #[v] W fun e w' => e = .returned (.int .i64 0) ∧ Below W.heap.size W w')
    (h19 : ∀ W, Below w.heap.size w W → Calls Tryd.prog 19 #[v] W fun e w' => e = .returned (.int .i64 0) ∧ Below W.heap.size W w') :
    Calls Tryd.prog 3 #[v] w fun e w' => e = .returned (.bool true) ∧ Below w.heap.size w w' := by
  have HL := Lib.hid hL
  have HA := Lib.hid hA
  have H16 := Lib.hid h16
  have H17 := Lib.hid h17
  have H18 := Lib.hid h18
  have H19 := Lib.hid h19
  clear hL hA h16 h17 h18 h19
  go_enter Tryd.func3, Tryd.ntmps3
  go_wp2_with (go_at_call 14; refine HL.out.mono ?_; rintro e w1 ⟨rfl, rfl⟩)
  refine (H16.out _ (Below.refl _ _)).mono ?_
  rintro e w2 ⟨v2, rfl, ho2, hb2⟩
  go_wp2_with fail
  refine (H17.out _ hb2).mono ?_
  rintro e w3 ⟨v3, rfl, ho3, hb3⟩
  have hB3 := below_aft hb2 hb3
  go_wp2_with fail
  refine (H18.out _ hB3).mono ?_
  rintro e w4 ⟨rfl, hb4⟩
  have hB4 := below_aft hB3 hb4
  go_wp2_with fail
  refine (H19.out _ hB4).mono ?_
  rintro e w5 ⟨rfl, hb5⟩
  have hB5 := below_aft hB4 hb5
  have k1 := conv_row (own_below (own_below (own_below ho2 hb3) hb4) hb5) hp1
  have k2 := conv_row (own_below (own_below ho3 hb4) hb5) hp2
  rw [hsame] at k2
  clear ho2 ho3
  go_wp2_with fail
  refine (HA.out _ hB5).mono ?_
  rintro e w6 ⟨rfl, hb6⟩
  go_wp2
  go_ret
  exact ⟨rfl, below_aft hB5 hb6⟩

theorem encAll_pos {l : List It} (h : 0 < l.length) (hs : ∀ x ∈ l, Sound x) (h2 : ∀ x ∈ l, shapeB x.k x.n x.d = true) : 0 < (encAll l).length ∧ 0 < (encAllR l).length := by
  have e : (encAllR l).length = (encAll l).length := by
    have := congrArg List.length (enc_same l hs h2)
    simpa [Lib.bytesOf] using this
  cases l with
  | nil => simp at h
  | cons x r =>
    have e1 : encAllR (x :: r) = dataI (bytesS x.k x.n x.d) ++ encAllR r := by simp [encAllR]
    have h3 : 0 < (dataI (bytesS x.k x.n x.d)).length := by
      have := bytesS_ne x.k x.n x.d
      rw [dataI_len]
      rcases Nat.eq_zero_or_pos (bytesS x.k x.n x.d).size with h0 | h0
      · exfalso
        have h4 : (bytesS x.k x.n x.d).data.toList = [] := by
          apply List.eq_nil_of_length_eq_zero
          rw [Array.length_toList]; exact h0
        rw [Lib.toList_data, h4] at this
        cases this
      · exact h0
    have h5 : 0 < (encAllR (x :: r)).length := by rw [e1, List.length_append]; omega
    exact ⟨by omega, h5⟩

/-- the law, for items that lie in memory as a []api.Item -/
theorem validates_any (l : List It) (v : Value) (w : World) (hI : ItemsAt w w.heap.size v l) (ht : Tabs w) (h : l.length ≤ 100) : Calls Tryd.prog 3 #[v] w fun e w' => e = .returned (.bool true) ∧ Below w.heap.size w w' := by
  have hL := light_any l v w hI h
  cases hl : (l.all fun x => decide (x.d.size ≤ 1100)) with
  | false =>
    rw [hl] at hL
    exact validates_dark v w ht hL
  | true =>
    rw [hl] at hL
    have hpos : ∀ x ∈ l, 0 ≤ x.n := fun x hx => (hI.ok x hx).1
    have hI2 : ∀ W, Below w.heap.size w W → ItemsAt W W.heap.size v l := fun W hW => itemsAt_mono (hI.below hW) hW.size
    have hA : ∀ W, Below w.heap.size w W → Calls Tryd.prog 15 #[] W fun e w' => e = .returned (.bool true) ∧ Below W.heap.size W w' := fun W hW => awake_any W (ht.later hW)
    have h18 := fun W (hW : Below w.heap.size w W) => validate_any l v W (hI2 W hW) (ht.later hW)
    have h19 := fun W (hW : Below w.heap.size w W) => validR_any l v W (hI2 W hW) (ht.later hW)
    rw [← valid_same l hpos] at h19
    by_cases hz : validE l = 0
    · have hzR : validR l = 0 := by rw [← valid_same l hpos]; exact hz
      have hS := (validGo_sound l 0 [] hpos hz).1
      have hsh := validGo_shape l 0 [] hz
      have hlen0 : 0 < l.length := by
        cases l with
        | nil => exact absurd hz (by decide)
        | cons a b => simp
      have hp := encAll_pos hlen0 hS hsh
      rw [hz] at h18 h19
      exact validates_good v (encAll l) (encAllR l) w hp.1 hp.2 (strOf_same hS hsh) hL hA (fun W hW => encode_good l v W (hI2 W hW) (ht.later hW) hz) (fun W hW => encodeR_good l v W (hI2 W hW) (ht.later hW) hzR hS (by omega)) h18 h19
    · have hzR : validR l ≠ 0 := by rw [← valid_same l hpos]; exact hz
      have h17 := fun W (hW : Below w.heap.size w W) => encodeR_bad l v W (hI2 W hW) (ht.later hW) hzR
      rw [← valid_same l hpos] at h17
      exact validates_bad v (validE l) w hz hL hA (fun W hW => encode_bad l v W (hI2 W hW) (ht.later hW) hz) h17 h18 h19

end Go.Proofs.YtepinmeidjlmmaaDoor
