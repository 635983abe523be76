/- Bytes as a string; the check 'awake'. -/
import Derived.Test.YtjimbmgbeklecaaSipL
namespace Go.Proofs.Ytjimbmgbeklecaa
open Go.RowKit
set_option maxRecDepth 100000

theorem conv_bytes {w : World} {A : Option Addr} {n cap : Nat} {zs : List Int} (h : Bytes w A n zs) :
    (convert 23 9 (.slice A n cap)).run Try.prog w = .ok (.string (strOfNums zs)) w := by
  rcases A with _ | a
  · have hn : n = 0 := by
      rcases Nat.eq_zero_or_pos n with h0 | h0
      · exact h0
      · obtain ⟨_, e, _⟩ := h.at_ 0 h0
        cases e
    have hz : zs = [] := List.eq_nil_of_length_eq_zero (by rw [h.len, hn])
    subst hz
    subst hn
    exact run_convert_bytes_nil w 23 5 Try.underlying23 Try.underlying5 0 cap 9 Try.underlying9
  · have hl : (loadCells a n).run Try.prog w = .ok (zs.map (Value.int .u8)).toArray w := by
      have := run_loadCells_list (P := Try.prog) w a (bv zs) h.cells
      rw [bv_len, h.len] at this
      exact this
    rw [run_convert_bytes_string w 23 9 5 _ n cap Try.underlying23 Try.underlying5 Try.underlying9, run_bytesToString w _ n cap zs hl, foldl_push_bytes]
    simp [strOfNums, ByteArray.empty, ByteArray.emptyWithCapacity]
    rfl

theorem sum_lit (A : Option Addr) (n cap : Nat) (w : World) (hb : Bytes w A n [0, 1, 2, 3, 4, 5, 6, 7, 8, 9, 10, 11, 12, 13, 14]) (hc : n ≤ cap) (hm : cap ≤ 9223372036854775807) :
    Calls Try.prog 8 #[.int .u64 506097522914230528, .int .u64 1084818905618843912, .slice A n cap] w fun e w' => e = .returned (.int .u64 11613035633349379557) ∧ Below w.heap.size w w' := by
  have h := sum_any 506097522914230528 1084818905618843912 A n cap _ w hb hc hm
  rw [sip_vector] at h
  exact h
theorem words_lit (g : Nat) (w : World) (hw : Ws w (some ⟨g, 0, none⟩) 1 [1#64]) :
    Calls Try.prog 14 #[.slice (some ⟨g, 0, none⟩) 1 1] w fun e w' => ∃ A cap, e = .returned (.slice A 8 cap) ∧ Bytes w' A 8 [0, 0, 0, 0, 0, 0, 0, 1] ∧ Below w.heap.size w w' := by
  refine (words_any _ 1 1 [1#64] w hw (by omega)).mono ?_
  rintro e w' ⟨v, rfl, ho, hb⟩
  obtain ⟨A, cap, rfl, _, _, hB⟩ := own_bytes ho (wsBytes_rng _)
  refine ⟨A, cap, rfl, ?_, hb⟩
  rw [show wsBytes [1#64] = [0, 0, 0, 0, 0, 0, 0, 1] by decide +kernel] at hB
  exact hB
def upto15 (k : Nat) : List Int := (List.range k).map fun (i : Nat) => (i : Int)
theorem upto15_succ (k : Nat) : upto15 (k + 1) = upto15 k ++ [(k : Int)] := by simp [upto15, List.range_succ]

set_option maxHeartbeats 1000000 in
theorem awake_any (w : World) :
    Calls Try.prog 7 #[] w fun e w' => e = .returned (.bool true) ∧ Below w.heap.size w w' := by
  go_enter Try.func7, Try.ntmps7
  go_wp2
  go_loopw [1, 2] (fun v i wr => ∃ k : Nat, k ≤ 15 ∧ i = .int .i64 k ∧ wr.ownsRow w.heap.size 5 1 v k (bv (upto15 k)) ∧ Below w.heap.size w wr) (fun _ i _ => 15 - (intOf i).toNat)
  case atStart => exact ⟨0, Nat.zero_le _, rfl, ⟨by simp [upto15, bv], .inl ⟨rfl, rfl⟩⟩, Below.refl _ _⟩
  case round =>
    obtain ⟨k, hk, rfl, hok, hbk⟩ := hrel
    have hsz := hbk.size
    have HK := Lib.hid hok
    have HBK := Lib.hid hbk
    clear hok hbk
    by_cases hlt : k < 15
    · go_wp2_with (at_builtin; (refine app_byte rfl _ _ rfl w.heap.size _ k _ _ HK.out rfl _ rfl rfl (by omega) hsz ?_); intro v2 w2 ho2 hb2)
      go_roundw
      case rel => exact ⟨k + 1, by omega, by go_num, by rw [upto15_succ, bv_app]; exact ho2, HBK.out.trans hb2⟩
      case measure => (simp [intOf] <;> omega)
    · have hk15 : k = 15 := by omega
      have ho := HK.out
      rw [hk15] at ho
      obtain ⟨A, cap, hv, h1, h2, hB⟩ := own_bytes ho (by decide)
      have HB : Hid (Bytes wr A 15 [0, 1, 2, 3, 4, 5, 6, 7, 8, 9, 10, 11, 12, 13, 14]) := Lib.hid hB
      clear hB ho hk15
      subst hv
      go_wp2_with fail
      refine (sum_lit A 15 cap _ HB.out h1 h2).mono ?_
      rintro e w3 ⟨rfl, hb3⟩
      have hb03 := HBK.out.trans (hb3.mono hsz)
      have hsz3 := hb03.size
      have HB3 := Lib.hid hb03
      clear hb03 hb3
      go_wp2_with fail
      refine (words_lit _ _ (Ws.one w3 1#64)).mono ?_
      rintro e w4 ⟨A4, cap4, rfl, hB4, hb4⟩
      have hcv := conv_bytes (cap := cap4) hB4
      rw [show strOfNums [0, 0, 0, 0, 0, 0, 0, 1] = ⟨#[0, 0, 0, 0, 0, 0, 0, 1]⟩ from rfl] at hcv
      go_wp2
      go_ret
      exact ⟨rfl, HB3.out.trans (((Below.refl _ w3).alloc hsz3 _).trans (hb4.mono (by simp; omega)))⟩
end Go.Proofs.Ytjimbmgbeklecaa
