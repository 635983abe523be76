import Derived.Test.YtepinmeidjlmmaaDoorC1
namespace Go.Proofs.YtepinmeidjlmmaaDoor
open Go.RowKit

set_option maxRecDepth 100000 in
set_option maxHeartbeats 8000000 in
theorem items_small_false (n : Int) (vb : Value) (a : Option Addr) (len cap : Nat) (sb s : ByteArray) (w : World) (ht : Tabs w) (hvb : vb = .slice a len cap) (hC : ConvAt w w.heap.size vb sb) (hl : len ≤ 2000) (hs : s.size ≤ 2000) (hn : 0 ≤ n) (hsb : sb.size ≤ 2000) :
    Calls Tryd.prog 12 #[.int .u64 n, vb, .string s, .bool false] w fun e w' => e = .returned (.bool true) ∧ Below w.heap.size w w' := by
  subst hvb
  have HT := Lib.hid ht
  have HC := Lib.hid hC
  have hsb2 : sb.size ≤ maxLen := by unfold maxLen; omega
  have hs2 : s.size ≤ maxLen := by unfold maxLen; omega
  have hz : (0 : Int) ≤ 0 := by omega
  clear ht hC
  have hl1 : ¬ (2000 : Int) < (len : Int) := by omega
  have hs1 : ¬ (2000 : Int) < (s.size : Int) := by omega
  go_enter Tryd.func12, Tryd.ntmps12
  go_wp2_with fail
  go_region_held3 (fun W => Below w.heap.size w W ∧ (convert 25 9 (.slice a len cap)).run Tryd.prog W = .ok (.string sb) W)
    ((refine CS.of HC.out ?_; (repeat (first | exact Below.refl _ _ | refine below_drewN ?_ _ | refine Below.drew ?_ | refine Below.alloc ?_ (by simp <;> omega) _ | refine below_after ?_ hb9))))
    (first | (go_at_call 34; refine (uint_any _ _).mono ?_; rintro e w' ⟨rfl, rfl⟩) | (go_at_call 35; refine (bytes_any _ sb _ (And.right (by assumption))).mono ?_; rintro e w' ⟨rfl, rfl⟩) | (go_at_call 36; refine (text_any _ _).mono ?_; rintro e w' ⟨rfl, rfl⟩) | (go_at_call 29; refine (bool_false _).mono ?_; rintro e w' ⟨rfl, rfl⟩) | (go_at_call 24; refine (same_any _ _ _ _ [⟨1, n, ⟨#[]⟩⟩] _ (itemsAt_one (Nat.lt_succ_self _) ?_ hn (Nat.zero_le _)) (itemsAt_one (Nat.lt_succ_self _) ?_ hn (Nat.zero_le _))).mono ?_; (simp (config := {decide := true}) only [heap_drewN, heap_drew, heap_alloc_if, heap_alloc_size, Nat.add_assoc, Nat.add_eq_left, Nat.left_eq_add, Nat.add_left_cancel_iff, Nat.reduceAdd, Nat.reduceEqDiff, if_false, if_true, reduceIte, itemCs]); (simp (config := {decide := true}) only [heap_drewN, heap_drew, heap_alloc_if, heap_alloc_size, Nat.add_assoc, Nat.add_eq_left, Nat.left_eq_add, Nat.add_left_cancel_iff, Nat.reduceAdd, Nat.reduceEqDiff, if_false, if_true, reduceIte, itemCs]); rintro e w' ⟨rfl, m, rfl⟩) | (go_at_call 24; refine (same_any _ _ _ _ [⟨3, 0, sb⟩] _ (itemsAt_one (Nat.lt_succ_self _) ?_ (Int.le_refl 0) hsb2) (itemsAt_one (Nat.lt_succ_self _) ?_ (Int.le_refl 0) hsb2)).mono ?_; (simp (config := {decide := true}) only [heap_drewN, heap_drew, heap_alloc_if, heap_alloc_size, Nat.add_assoc, Nat.add_eq_left, Nat.left_eq_add, Nat.add_left_cancel_iff, Nat.reduceAdd, Nat.reduceEqDiff, if_false, if_true, reduceIte, itemCs]); (simp (config := {decide := true}) only [heap_drewN, heap_drew, heap_alloc_if, heap_alloc_size, Nat.add_assoc, Nat.add_eq_left, Nat.left_eq_add, Nat.add_left_cancel_iff, Nat.reduceAdd, Nat.reduceEqDiff, if_false, if_true, reduceIte, itemCs]); rintro e w' ⟨rfl, m, rfl⟩) | (go_at_call 24; refine (same_any _ _ _ _ [⟨4, 0, s⟩] _ (itemsAt_one (Nat.lt_succ_self _) ?_ (Int.le_refl 0) hs2) (itemsAt_one (Nat.lt_succ_self _) ?_ (Int.le_refl 0) hs2)).mono ?_; (simp (config := {decide := true}) only [heap_drewN, heap_drew, heap_alloc_if, heap_alloc_size, Nat.add_assoc, Nat.add_eq_left, Nat.left_eq_add, Nat.add_left_cancel_iff, Nat.reduceAdd, Nat.reduceEqDiff, if_false, if_true, reduceIte, itemCs]); (simp (config := {decide := true}) only [heap_drewN, heap_drew, heap_alloc_if, heap_alloc_size, Nat.add_assoc, Nat.add_eq_left, Nat.left_eq_add, Nat.add_left_cancel_iff, Nat.reduceAdd, Nat.reduceEqDiff, if_false, if_true, reduceIte, itemCs]); rintro e w' ⟨rfl, m, rfl⟩) | (go_at_call 24; refine (same_any _ _ _ _ [⟨7, 0, ⟨#[]⟩⟩] _ (itemsAt_one (Nat.lt_succ_self _) ?_ hz (Nat.zero_le _)) (itemsAt_one (Nat.lt_succ_self _) ?_ hz (Nat.zero_le _))).mono ?_; (simp (config := {decide := true}) only [heap_drewN, heap_drew, heap_alloc_if, heap_alloc_size, Nat.add_assoc, Nat.add_eq_left, Nat.left_eq_add, Nat.add_left_cancel_iff, Nat.reduceAdd, Nat.reduceEqDiff, if_false, if_true, reduceIte, itemCs]); (simp (config := {decide := true}) only [heap_drewN, heap_drew, heap_alloc_if, heap_alloc_size, Nat.add_assoc, Nat.add_eq_left, Nat.left_eq_add, Nat.add_left_cancel_iff, Nat.reduceAdd, Nat.reduceEqDiff, if_false, if_true, reduceIte, itemCs]); rintro e w' ⟨rfl, m, rfl⟩) | (go_at_call 15; refine (awake_any _ (HT.out.later (And.left (by assumption)))).mono ?_; rintro e w9 ⟨rfl, hb9⟩))
  all_goals (go_wp2; go_ret; exact ⟨rfl, by (repeat (first | exact Below.refl _ _ | refine below_drewN ?_ _ | refine Below.drew ?_ | refine Below.alloc ?_ (by simp <;> omega) _ | refine below_after ?_ hb9))⟩)

end Go.Proofs.YtepinmeidjlmmaaDoor
