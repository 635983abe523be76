/- Bytes as a string; the check 'awake'. -/
import Derived.Test.YtgfcbgnlkiebhaaSipL
namespace Go.Proofs.Ytgfcbgnlkiebhaa
open Go.RowKit
set_option maxRecDepth 100000

theorem conv_bytes {w : World} {A : Option Addr} {n cap : Nat} {zs : List Int} (h : Bytes w A n zs) :
    (convert 23 9 (.slice A n cap)).run Try.prog w = .ok (.string (strOfNums zs)) w := by
  rcases A with _ | a
  · have hn : n = 0 := by
      rcases Nat.eq_zero_or_pos n with h0 | h0
      · exact h0
      · obtain ⟨_, e, _⟩ := h.at_ 0 h0
        cases e
    have hz : zs = [] := List.eq_nil_of_length_eq_zero (by rw [h.len, hn])
    subst hz
    subst hn
    exact run_convert_bytes_nil w 23 5 Try.underlying23 Try.underlying5 0 cap 9 Try.underlying9
  · have hl : (loadCells a n).run Try.prog w = .ok (zs.map (Value.int .u8)).toArray w := by
      have := run_loadCells_list (P := Try.prog) w a (bv zs) h.cells
      rw [bv_len, h.len] at this
      exact this
    rw [run_convert_bytes_string w 23 9 5 _ n cap Try.underlying23 Try.underlying5 Try.underlying9, run_bytesToString w _ n cap zs hl, foldl_push_bytes]
    simp [strOfNums, ByteArray.empty, ByteArray.emptyWithCapacity]
    rfl

theorem sum_lit (A : Option Addr) (n cap : Nat) (w : World) (hb : Bytes w A n [0, 1, 2, 3, 4, 5, 6, 7, 8, 9, 10, 11, 12, 13, 14]) (hc : n ≤ cap) (hm : cap ≤ 9223372036854775807) :
    Calls Try.prog 28 #[.int .u64 506097522914230528, .int .u64 1084818905618843912, .slice A n cap] w fun e w' => e = .returned (.int .u64 11613035633349379557) ∧ Below w.heap.size w w' := by
  have h := sum_any 506097522914230528 1084818905618843912 A n cap _ w hb hc hm
  rw [sip_vector] at h
  exact h
theorem words_lit (g : Nat) (w : World) (hw : Ws w (some ⟨g, 0, none⟩) 1 [1#64]) :
    Calls Try.prog 20 #[.slice (some ⟨g, 0, none⟩) 1 1] w fun e w' => ∃ A cap, e = .returned (.slice A 8 cap) ∧ Bytes w' A 8 [0, 0, 0, 0, 0, 0, 0, 1] ∧ Below w.heap.size w w' := by
  refine (words_any _ 1 1 [1#64] w hw (by omega)).mono ?_
  rintro e w' ⟨v, rfl, ho, hb⟩
  obtain ⟨A, cap, rfl, _, _, hB⟩ := own_bytes ho (wsBytes_rng _)
  refine ⟨A, cap, rfl, ?_, hb⟩
  rw [show wsBytes [1#64] = [0, 0, 0, 0, 0, 0, 0, 1] by decide +kernel] at hB
  exact hB
def upto15 (k : Nat) : List Int := (List.range k).map fun (i : Nat) => (i : Int)
theorem upto15_succ (k : Nat) : upto15 (k + 1) = upto15 k ++ [(k : Int)] := by simp [upto15, List.range_succ]

end Go.Proofs.Ytgfcbgnlkiebhaa
