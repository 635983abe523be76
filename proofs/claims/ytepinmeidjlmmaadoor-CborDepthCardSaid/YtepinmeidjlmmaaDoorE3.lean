import Derived.Test.YtepinmeidjlmmaaDoorE2
import Derived.Deep.RegionWith
namespace Go.Proofs.YtepinmeidjlmmaaDoor
open Go.RowKit

theorem conv_row {w : World} {base : Nat} {v : Value} {l : List Int} (h : w.ownsRow base 5 1 v l.length (bv l)) (hl : 0 < l.length) : (convert 25 9 v).run Tryd.prog w = .ok (.string (strOfNums l)) w := by
  rcases h.2 with ⟨_, h0⟩ | ⟨g, cap, cur, rfl, _⟩
  · omega
  refine run_convert_bytes_arg w 25 5 Tryd.underlying25 Tryd.underlying5 g 0 l.length cap l rfl (fun i hi => ?_) 9 Tryd.underlying9
  rw [Nat.zero_add, h.cellAt _ (by omega)]
  simp [bv, List.getD, hi]

theorem headR_pos (k n : Int) (d : ByteArray) : 0 < (headR k n d).length := by
  unfold headR
  split
  · simp
  split
  · simp
  unfold encHead
  split
  · simp
  split
  · simp
  split
  · simp
  split <;> simp

theorem below_after2 {w W w9 : World} (h1 : Below w.heap.size w W) (h2 : Below W.drew.heap.size W.drew w9) : Below w.heap.size w w9 := h1.drew.trans (h2.mono h1.size)

def bytesS (k n : Int) (d : ByteArray) : ByteArray := strOfNums (headR k n d) ++ d
set_option maxRecDepth 100000 in
set_option maxHeartbeats 1000000 in
theorem bytesR_any (k n : Int) (d : ByteArray) (w : World) (hk0 : 1 ≤ k) (hk1 : k ≤ 8) (hn0 : 0 ≤ n) (h7 : k = 7 → n ≤ 1) (hd : d.size ≤ 1100) :
    Calls Tryd.prog 38 #[itemV k n d] w fun e w' => e = .returned (.string (bytesS k n d)) ∧ Below w.heap.size w w' := by
  have HS0 := Lib.hid (BoxS.mk' (heap_new w (.cells #[.int .i64 k, .int .u64 n, .string d] 58)))
  have HB0 := Lib.hid ((Below.refl w.heap.size w).alloc (Nat.le_refl _) (.cells #[.int .i64 k, .int .u64 n, .string d] 58))
  have HC := Lib.hid (fun (W : World) => headR_any k n d W hk0 hk1 hn0 h7 hd)
  have hlen : (headR k n d).length ≤ 9 := by
    unfold headR
    split
    · simp
    split
    · simp
    exact encHead_len _ _
  have hsum : (strOfNums (headR k n d)).size + d.size ≤ 9223372036854775807 := by rw [strOfNums_size]; omega
  have hsum2 : ((strOfNums (headR k n d)).size : Int) + (d.size : Int) ≤ 9223372036854775807 := by omega
  have hadd := fun (W : World) => run_string_add_sum (P := Tryd.prog) (w := W) (strOfNums (headR k n d)) d hsum
  unfold itemV
  go_enter Tryd.func38, Tryd.ntmps38
  go_wp2_with fail
  go_region_with (go_at_call 54; refine (HC.out _).mono ?_; rintro e w2 ⟨v2, rfl, ho2, hb2⟩; have hcv2 := conv_row ho2 (headR_pos k n d); have hc2 := (hb2.cell (p := ⟨w.heap.size, 2, none⟩) (by simp)).trans HS0.out.2.2.2)
  all_goals go_wp2
  all_goals go_ret
  all_goals exact ⟨rfl, below_after2 HB0.out hb2⟩

def lessB (a b : ByteArray) : Bool := if a.size = b.size then Op.bytesLess a.toList b.toList else decide (a.size < b.size)
set_option maxRecDepth 100000 in
set_option maxHeartbeats 400000 in
theorem less_ne (a b : ByteArray) (w : World) (h : a.size ≠ b.size) : Calls Tryd.prog 70 #[.string a, .string b] w fun e w' => e = .returned (.bool (decide (a.size < b.size))) ∧ w = w' := by
  have h1 : ((a.size : Int) != (b.size : Int)) = true := by simp; omega
  go_enter Tryd.func70, Tryd.ntmps70
  go_wp2
  go_ret
  exact ⟨rfl, rfl⟩
set_option maxRecDepth 100000 in
set_option maxHeartbeats 400000 in
theorem less_eq (a b : ByteArray) (w : World) (h : a.size = b.size) : Calls Tryd.prog 70 #[.string a, .string b] w fun e w' => e = .returned (.bool (lessB a b)) ∧ w = w' := by
  have h1 : ((a.size : Int) != (b.size : Int)) = false := by simp; omega
  go_enter Tryd.func70, Tryd.ntmps70
  go_wp2
  go_ret
  exact ⟨by rw [lessB, if_pos h]; rfl, rfl⟩
theorem less_any (a b : ByteArray) (w : World) : Calls Tryd.prog 70 #[.string a, .string b] w fun e w' => e = .returned (.bool (lessB a b)) ∧ w = w' := by
  by_cases h : a.size = b.size
  · exact less_eq a b w h
  · have e : lessB a b = decide (a.size < b.size) := by rw [lessB, if_neg h]
    rw [e]
    exact less_ne a b w h

def checkRE (c dep : Nat) (key : Bool) (bf : ByteArray) (k n : Int) (d : ByteArray) : Int :=
  if 512 ≤ c then 8 else if k < 1 ∨ 8 < k then 3 else if key = true ∧ canKeyB k = false then 3 else if 8 < dep then 5 else if shapeB k n d = false then 4 else if tooLargeB k (argN k n d) = true then 8
  else if k = 4 ∧ Lib.validD d.data.toList = false then 6 else if key = true ∧ bf.toList.isEmpty = false ∧ lessB bf (bytesS k n d) = false then 7 else 0
abbrev CheckPost (w : World) (r : Int) (e : Ending) (w' : World) : Prop := e = .returned (.int .i64 r) ∧ Below w.heap.size w w'

theorem below_aft {w W w9 : World} (h1 : Below w.heap.size w W) (h2 : Below W.heap.size W w9) : Below w.heap.size w w9 := h1.trans (h2.mono h1.size)
end Go.Proofs.YtepinmeidjlmmaaDoor
