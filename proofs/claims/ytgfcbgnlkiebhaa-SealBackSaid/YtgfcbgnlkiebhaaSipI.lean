/- The reference's Words; Hash and Mac of both. -/
import Derived.Test.YtgfcbgnlkiebhaaSipH
namespace Go.Proofs.Ytgfcbgnlkiebhaa
open Go.RowKit
set_option maxRecDepth 100000

set_option maxHeartbeats 1000000 in
theorem wordsR_any (A : Option Addr) (n cap : Nat) (ws : List (BitVec 64)) (w : World) (hw : Ws w A n ws) (hn : n ≤ 1000000000000) :
    Calls Try.prog 21 #[.slice A n cap] w fun e w' => ∃ v, e = .returned v ∧ w'.ownsRow w.heap.size 5 1 v (8 * n) (bv (wsBytes ws)) ∧ Below w.heap.size w w' := by
  have HW := Lib.hid hw
  clear hw
  go_enter Try.func21, Try.ntmps21
  go_wp2
  go_loopw [3, 4] (fun v i wr => ∃ k : Nat, k ≤ n ∧ i = .int .i64 k ∧ wr.ownsRow w.heap.size 5 1 v (8 * k) (bv (wsBytes (ws.take k))) ∧ Below w.heap.size w wr) (fun _ i _ => n - (intOf i).toNat)
  case atStart => exact ⟨0, Nat.zero_le _, rfl, ⟨by simp [wsBytes, bv], .inl ⟨rfl, rfl⟩⟩, Below.refl _ _⟩
  case round =>
    obtain ⟨k, hk, rfl, hok, hbk⟩ := hrel
    have hl := HW.out.len
    have HK := Lib.hid hok
    have HBK := Lib.hid hbk
    clear hok hbk
    by_cases hlt : k < n
    · have ht := wsBytes_take (ws := ws) (i := k) (by omega)
      have hcw := fun (wr : World) (h : Below w.heap.size w wr) => (HW.out.below h).at_ k hlt
      generalize ws.getD k 0 = x at *
      have HC := Lib.hid hcw
      have HT := Lib.hid ht
      clear ht hcw
      go_wp2
      go_loopw [3, 5] (fun v i wr' => ∃ j : Nat, ∃ z : Int, i = .int .i64 z ∧ Hid (z = 7 - j) ∧ -1 ≤ z ∧ z ≤ 7 ∧ j ≤ 8 ∧ wr'.ownsRow w.heap.size 5 1 v (8 * k + j) (bv (wsBytes (ws.take k) ++ wbs x j)) ∧ Below w.heap.size w wr') (fun _ i _ => (intOf i + 1).toNat)
      case atStart => exact ⟨0, 7, rfl, Lib.hid rfl, by omega, by omega, Nat.zero_le _, by simpa [wbs] using HK.out, HBK.out⟩
      case round =>
        obtain ⟨j, z, rfl, Hz, hz1, hz7, hj, hoj, hbj⟩ := hrel
        have hsz := hbj.size
        have HJ := Lib.hid hoj
        have HBJ := Lib.hid hbj
        clear hoj hbj
        by_cases hz0 : 0 ≤ z
        · obtain ⟨K, rfl⟩ := Int.eq_ofNat_of_zero_le hz0
          have hKj : K = 7 - j ∧ j ≤ 7 := by have := Hz.out; omega
          have HKj := Lib.hid hKj
          clear hKj
          obtain ⟨a, rfl, hc⟩ := HC.out _ HBJ.out
          go_wp2_with (at_builtin; (refine app_byte rfl _ _ rfl w.heap.size _ (8 * k + j) _ _ HJ.out rfl _ rfl rfl (by have := HKj.out; omega) hsz ?_); intro v2 w2 ho2 hb2)
          rw [HKj.out.1, wb_eq] at ho2
          go_roundw
          case rel => exact ⟨j + 1, _, rfl, Lib.hid (by have := Hz.out; omega), by omega, by omega, by have := HKj.out; omega, by rw [wbs_succ, ← List.append_assoc, bv_app]; exact ho2, HBJ.out.trans hb2⟩
          case measure => (simp [intOf] <;> omega)
        · have hj8 : j = 8 := by have := Hz.out; omega
          obtain rfl : z = -1 := by omega
          have HJ8 := Lib.hid hj8
          clear hj8
          go_wp2
          go_roundw
          case rel => exact ⟨k + 1, by omega, by go_num, by rw [HT.out]; have h := HJ.out; rw [HJ8.out] at h; exact h, HBJ.out⟩
          case measure => (simp [intOf] <;> omega)
    · have hkn : k = n := by omega
      have hfin := HK.out
      rw [List.take_of_length_le (by omega), hkn] at hfin
      have HF := Lib.hid hfin
      clear hfin hkn
      go_wp2
      go_ret
      exact ⟨_, rfl, HF.out, HBK.out⟩

theorem val_wrap (d : Int) : IntKind.u64.wrap d = val (BitVec.ofInt 64 d) := by
  rw [IntKind.wrap_u64]; unfold val
  rw [BitVec.toNat_ofInt]
  omega
def sipHash (d : Int) (zs : List Int) : BitVec 64 := sipSum (BitVec.ofInt 64 d) 0#64 zs
def sipMac (x : BitVec 64) (d : Int) (zs : List Int) : BitVec 64 := sipSum x (1#64 + BitVec.ofInt 64 d) zs

theorem one_wrap (d : Int) : IntKind.u64.wrap (1 + IntKind.u64.wrap d) = val (1#64 + BitVec.ofInt 64 d) := by
  rw [val_wrap d, show (1 : Int) = val 1#64 from rfl, val_add]
theorem sum_zero (x : BitVec 64) (A : Option Addr) (n cap : Nat) (zs : List Int) (w : World) (hb : Bytes w A n zs) (hc : n ≤ cap) (hm : cap ≤ 9223372036854775807) :
    Calls Try.prog 28 #[.int .u64 (val x), .int .u64 0, .slice A n cap] w fun e w' => e = .returned (.int .u64 (val (sipSum x 0#64 zs))) ∧ Below w.heap.size w w' := sum_any x 0#64 A n cap zs w hb hc hm

set_option maxHeartbeats 1000000 in
theorem mac_any (x : BitVec 64) (d : Int) (A : Option Addr) (n cap : Nat) (zs : List Int) (w : World) (hb : Bytes w A n zs) (hc : n ≤ cap) (hm : cap ≤ 9223372036854775807) :
    Calls Try.prog 19 #[.int .u64 (val x), .int .i64 d, .slice A n cap] w fun e w' => e = .returned (.int .u64 (val (sipMac x d zs))) ∧ Below w.heap.size w w' := by
  go_enter Try.func19, Try.ntmps19
  go_wp2_with fail
  rw [one_wrap]
  refine (sum_any x (1#64 + BitVec.ofInt 64 d) A n cap zs _ hb hc hm).mono ?_
  rintro e w' ⟨rfl, hb'⟩
  go_wp2
  go_ret
  exact ⟨rfl, hb'⟩

set_option maxHeartbeats 1000000 in
theorem macR_any (x : BitVec 64) (d : Int) (A : Option Addr) (n cap : Nat) (zs : List Int) (w : World) (hb : Bytes w A n zs) (hn : n ≤ 1000000000000) :
    Calls Try.prog 22 #[.int .u64 (val x), .int .i64 d, .slice A n cap] w fun e w' => e = .returned (.int .u64 (val (sipMac x d zs))) ∧ Below w.heap.size w w' := by
  go_enter Try.func22, Try.ntmps22
  go_wp2_with fail
  rw [one_wrap]
  refine (sumR_any x (1#64 + BitVec.ofInt 64 d) A n cap zs _ hb hn).mono ?_
  rintro e w' ⟨rfl, hb'⟩
  go_wp2
  go_ret
  exact ⟨rfl, hb'⟩

end Go.Proofs.Ytgfcbgnlkiebhaa
