/- The helpers of layer 6's laws: short, opens, awake. -/
import Derived.Test.YtgfcbgnlkiebhaaSeG
import Derived.Test.YtgfcbgnlkiebhaaHs
import Derived.Lib.SlBytesConst
namespace Go.Proofs.Ytgfcbgnlkiebhaa
open Go.RowKit
set_option maxRecDepth 100000

set_option maxHeartbeats 1000000 in
theorem short2_yes (A B : Option Addr) (n c m d : Nat) (w : World) (hn : n ≤ 300) (hm : m ≤ 300) :
    Calls Try.prog 12 #[.slice (some ⟨w.heap.size, 0, none⟩) 2 2] (w.alloc (.cells #[.slice A n c, .slice B m d] 23)) fun e w' => e = .returned (.bool true) ∧ w' = w.alloc (.cells #[.slice A n c, .slice B m d] 23) := by
  have gn : ¬ (300 : Int) < (n : Int) := by omega
  have gm : ¬ (300 : Int) < (m : Int) := by omega
  clear hn hm
  go_enter Try.func12, Try.ntmps12
  go_wp2_with fail
  go_loopw [3] (fun iv wr => wr = w.alloc (.cells #[.slice A n c, .slice B m d] 23) ∧ (iv = .int .i64 0 ∨ iv = .int .i64 1 ∨ iv = .int .i64 2)) (fun iv _ => (2 - intOf iv).toNat)
  case atStart => exact ⟨rfl, .inl rfl⟩
  case round =>
    obtain ⟨rfl, h | h | h⟩ := hrel
    · subst h
      go_wp2
      go_roundw
      case rel => first | exact ⟨rfl, .inr (.inl rfl)⟩ | exact ⟨trivial, .inr (.inl rfl)⟩
      case measure => (simp [intOf])
    · subst h
      go_wp2
      go_roundw
      case rel => first | exact ⟨rfl, .inr (.inr rfl)⟩ | exact ⟨trivial, .inr (.inr rfl)⟩
      case measure => (simp [intOf])
    · subst h
      go_wp2
      go_ret
      exact ⟨rfl, rfl⟩
set_option maxHeartbeats 1000000 in
theorem short2_no0 (A B : Option Addr) (n c m d : Nat) (w : World)  (hn : 300 < n) :
    Calls Try.prog 12 #[.slice (some ⟨w.heap.size, 0, none⟩) 2 2] (w.alloc (.cells #[.slice A n c, .slice B m d] 23)) fun e w' => e = .returned (.bool false) ∧ w' = w.alloc (.cells #[.slice A n c, .slice B m d] 23) := by
  have gn : (300 : Int) < (n : Int) := by omega
  clear hn
  go_enter Try.func12, Try.ntmps12
  go_wp2_with fail
  go_loopw [3] (fun iv wr => wr = w.alloc (.cells #[.slice A n c, .slice B m d] 23) ∧ (iv = .int .i64 0)) (fun iv _ => (2 - intOf iv).toNat)
  case atStart => exact ⟨rfl, rfl⟩
  case round =>
    obtain ⟨rfl, h⟩ := hrel
    · subst h
      go_wp2
      go_ret
      exact ⟨rfl, rfl⟩
set_option maxHeartbeats 1000000 in
theorem short2_no1 (A B : Option Addr) (n c m d : Nat) (w : World) (hn : n ≤ 300) (hm : 300 < m) :
    Calls Try.prog 12 #[.slice (some ⟨w.heap.size, 0, none⟩) 2 2] (w.alloc (.cells #[.slice A n c, .slice B m d] 23)) fun e w' => e = .returned (.bool false) ∧ w' = w.alloc (.cells #[.slice A n c, .slice B m d] 23) := by
  have gn : ¬ (300 : Int) < (n : Int) := by omega
  have gm : (300 : Int) < (m : Int) := by omega
  clear hn hm
  go_enter Try.func12, Try.ntmps12
  go_wp2_with fail
  go_loopw [3] (fun iv wr => wr = w.alloc (.cells #[.slice A n c, .slice B m d] 23) ∧ (iv = .int .i64 0 ∨ iv = .int .i64 1)) (fun iv _ => (2 - intOf iv).toNat)
  case atStart => exact ⟨rfl, .inl rfl⟩
  case round =>
    obtain ⟨rfl, h | h⟩ := hrel
    · subst h
      go_wp2
      go_roundw
      case rel => first | exact ⟨rfl, .inr rfl⟩ | exact ⟨trivial, .inr rfl⟩
      case measure => (simp [intOf])
    · subst h
      go_wp2
      go_ret
      exact ⟨rfl, rfl⟩
set_option maxHeartbeats 1000000 in
theorem short3_yes (A B C : Option Addr) (n c m d k f : Nat) (w : World) (hn : n ≤ 300) (hm : m ≤ 300) (hk : k ≤ 300) :
    Calls Try.prog 12 #[.slice (some ⟨w.heap.size, 0, none⟩) 3 3] (w.alloc (.cells #[.slice A n c, .slice B m d, .slice C k f] 23)) fun e w' => e = .returned (.bool true) ∧ w' = w.alloc (.cells #[.slice A n c, .slice B m d, .slice C k f] 23) := by
  have gn : ¬ (300 : Int) < (n : Int) := by omega
  have gm : ¬ (300 : Int) < (m : Int) := by omega
  have gk : ¬ (300 : Int) < (k : Int) := by omega
  clear hn hm hk
  go_enter Try.func12, Try.ntmps12
  go_wp2_with fail
  go_loopw [3] (fun iv wr => wr = w.alloc (.cells #[.slice A n c, .slice B m d, .slice C k f] 23) ∧ (iv = .int .i64 0 ∨ iv = .int .i64 1 ∨ iv = .int .i64 2 ∨ iv = .int .i64 3)) (fun iv _ => (3 - intOf iv).toNat)
  case atStart => exact ⟨rfl, .inl rfl⟩
  case round =>
    obtain ⟨rfl, h | h | h | h⟩ := hrel
    · subst h
      go_wp2
      go_roundw
      case rel => first | exact ⟨rfl, .inr (.inl rfl)⟩ | exact ⟨trivial, .inr (.inl rfl)⟩
      case measure => (simp [intOf])
    · subst h
      go_wp2
      go_roundw
      case rel => first | exact ⟨rfl, .inr (.inr (.inl rfl))⟩ | exact ⟨trivial, .inr (.inr (.inl rfl))⟩
      case measure => (simp [intOf])
    · subst h
      go_wp2
      go_roundw
      case rel => first | exact ⟨rfl, .inr (.inr (.inr rfl))⟩ | exact ⟨trivial, .inr (.inr (.inr rfl))⟩
      case measure => (simp [intOf])
    · subst h
      go_wp2
      go_ret
      exact ⟨rfl, rfl⟩
set_option maxHeartbeats 1000000 in
theorem short3_no0 (A B C : Option Addr) (n c m d k f : Nat) (w : World)  (hn : 300 < n) :
    Calls Try.prog 12 #[.slice (some ⟨w.heap.size, 0, none⟩) 3 3] (w.alloc (.cells #[.slice A n c, .slice B m d, .slice C k f] 23)) fun e w' => e = .returned (.bool false) ∧ w' = w.alloc (.cells #[.slice A n c, .slice B m d, .slice C k f] 23) := by
  have gn : (300 : Int) < (n : Int) := by omega
  clear hn
  go_enter Try.func12, Try.ntmps12
  go_wp2_with fail
  go_loopw [3] (fun iv wr => wr = w.alloc (.cells #[.slice A n c, .slice B m d, .slice C k f] 23) ∧ (iv = .int .i64 0)) (fun iv _ => (3 - intOf iv).toNat)
  case atStart => exact ⟨rfl, rfl⟩
  case round =>
    obtain ⟨rfl, h⟩ := hrel
    · subst h
      go_wp2
      go_ret
      exact ⟨rfl, rfl⟩
set_option maxHeartbeats 1000000 in
theorem short3_no1 (A B C : Option Addr) (n c m d k f : Nat) (w : World) (hn : n ≤ 300) (hm : 300 < m) :
    Calls Try.prog 12 #[.slice (some ⟨w.heap.size, 0, none⟩) 3 3] (w.alloc (.cells #[.slice A n c, .slice B m d, .slice C k f] 23)) fun e w' => e = .returned (.bool false) ∧ w' = w.alloc (.cells #[.slice A n c, .slice B m d, .slice C k f] 23) := by
  have gn : ¬ (300 : Int) < (n : Int) := by omega
  have gm : (300 : Int) < (m : Int) := by omega
  clear hn hm
  go_enter Try.func12, Try.ntmps12
  go_wp2_with fail
  go_loopw [3] (fun iv wr => wr = w.alloc (.cells #[.slice A n c, .slice B m d, .slice C k f] 23) ∧ (iv = .int .i64 0 ∨ iv = .int .i64 1)) (fun iv _ => (3 - intOf iv).toNat)
  case atStart => exact ⟨rfl, .inl rfl⟩
  case round =>
    obtain ⟨rfl, h | h⟩ := hrel
    · subst h
      go_wp2
      go_roundw
      case rel => first | exact ⟨rfl, .inr rfl⟩ | exact ⟨trivial, .inr rfl⟩
      case measure => (simp [intOf])
    · subst h
      go_wp2
      go_ret
      exact ⟨rfl, rfl⟩
set_option maxHeartbeats 1000000 in
theorem short3_no2 (A B C : Option Addr) (n c m d k f : Nat) (w : World) (hn : n ≤ 300) (hm : m ≤ 300) (hk : 300 < k) :
    Calls Try.prog 12 #[.slice (some ⟨w.heap.size, 0, none⟩) 3 3] (w.alloc (.cells #[.slice A n c, .slice B m d, .slice C k f] 23)) fun e w' => e = .returned (.bool false) ∧ w' = w.alloc (.cells #[.slice A n c, .slice B m d, .slice C k f] 23) := by
  have gn : ¬ (300 : Int) < (n : Int) := by omega
  have gm : ¬ (300 : Int) < (m : Int) := by omega
  have gk : (300 : Int) < (k : Int) := by omega
  clear hn hm hk
  go_enter Try.func12, Try.ntmps12
  go_wp2_with fail
  go_loopw [3] (fun iv wr => wr = w.alloc (.cells #[.slice A n c, .slice B m d, .slice C k f] 23) ∧ (iv = .int .i64 0 ∨ iv = .int .i64 1 ∨ iv = .int .i64 2)) (fun iv _ => (3 - intOf iv).toNat)
  case atStart => exact ⟨rfl, .inl rfl⟩
  case round =>
    obtain ⟨rfl, h | h | h⟩ := hrel
    · subst h
      go_wp2
      go_roundw
      case rel => first | exact ⟨rfl, .inr (.inl rfl)⟩ | exact ⟨trivial, .inr (.inl rfl)⟩
      case measure => (simp [intOf])
    · subst h
      go_wp2
      go_roundw
      case rel => first | exact ⟨rfl, .inr (.inr rfl)⟩ | exact ⟨trivial, .inr (.inr rfl)⟩
      case measure => (simp [intOf])
    · subst h
      go_wp2
      go_ret
      exact ⟨rfl, rfl⟩
set_option maxHeartbeats 1000000 in
theorem opens_any (x : BitVec 64) (A B : Option Addr) (n c m d : Nat) (bs zs : List Int) (w : World) (hA : Bytes w A n bs) (hB : Bytes w B m zs) (hc : n ≤ c) (hcm : c ≤ 9223372036854775807) (hd : m ≤ d) (hdm : d ≤ 9223372036854775807) :
    Calls Try.prog 15 #[.int .u64 (val x), .slice A n c, .slice B m d] w fun e w' => e = .returned (.bool true) ∧ Below w.heap.size w w' := by
  have HA := Lib.hid hA
  have HB := Lib.hid hB
  have c1 := openE_all x A B n c m d bs zs w hA hB hc hcm hd hdm
  have c2 := fun w' (h : Below w.heap.size w w') => openR_all x A B n c m d bs zs w' (hA.below h) (hB.below h) hd
  generalize openE x bs zs = E at *
  generalize openT x bs zs = l at *
  have C1 := Lib.hid c1
  have C2 := Lib.hid c2
  clear c1 c2 hA hB hc hcm hd hdm
  go_enter Try.func15, Try.ntmps15
  go_wp2_with fail
  refine C1.out.mono ?_
  rintro e w1 ⟨A1, n1, k1, rfl, hy1, _, _, hb1⟩
  have HY1 := Lib.hid hy1
  have HB1 := Lib.hid hb1
  clear hy1 hb1
  go_wp2_with fail
  refine (C2.out _ HB1.out).mono ?_
  rintro e w2 ⟨A2, n2, k2, rfl, hy2, _, _, hb2⟩
  have hy12 := HY1.out.below hb2
  have hcv1 := conv_bytes (cap := k1) hy12
  have hcv2 := conv_bytes (cap := k2) hy2
  have HB2 := Lib.hid (HB1.out.trans (hb2.mono HB1.out.size))
  clear hb2 hy2 hy12
  generalize strOfNums l = sl at *
  go_wp2
  go_ret
  exact ⟨rfl, HB2.out⟩
theorem text_bytes (w : World) : Bytes (w.alloc (.cells #[.int .u8 116, .int .u8 101, .int .u8 120, .int .u8 116] 5 (4, 5))) (some ⟨w.heap.size, 0, none⟩) 4 [116, 101, 120, 116] := by
  refine ⟨rfl, by decide, fun i hi => ⟨_, rfl, ?_⟩⟩
  rw [addr_add]
  have h := heap_alloc_new w (.cells #[.int .u8 116, .int .u8 101, .int .u8 120, .int .u8 116] 5 (4, 5))
  unfold World.cell?
  rw [h]
  rcases (by omega : i = 0 ∨ i = 1 ∨ i = 2 ∨ i = 3) with rfl | rfl | rfl | rfl <;> rfl
theorem no_bytes (w : World) : Bytes w none 0 [] := ⟨rfl, fun z hz => by (cases hz), fun i hi => absurd hi (by omega)⟩
theorem seal_small {x y : BitVec 64} {bs ts : List Int} (h1 : ts.length ≤ 1024) (h2 : bs.length ≤ 1024) : sealL x y bs ts = boxB x y bs ts ∧ sealE bs ts = 0 := by
  unfold sealL sealE
  rw [if_pos ⟨h1, h2⟩, if_pos ⟨h1, h2⟩]
  exact ⟨rfl, rfl⟩
theorem open_box {x y : BitVec 64} {bs ts : List Int} (h1 : ts.length ≤ 1024) (h2 : bs.length ≤ 1024) (h : ∀ z ∈ ts, 0 ≤ z ∧ z ≤ 255) : openT x bs (boxB x y bs ts) = ts ∧ openE x bs (boxB x y bs ts) = 0 := by
  have hl := box_len x y bs ts
  have e : openE x bs (boxB x y bs ts) = 0 := by
    unfold openE
    rw [if_neg (by omega), if_neg (by omega), if_pos (box_right x y bs ts)]
  refine ⟨?_, e⟩
  unfold openT
  rw [if_pos e, box_open x y bs ts h]
theorem open_short {x : BitVec 64} {bs zs : List Int} (h : zs.length < 16) : openT x bs zs = [] ∧ openE x bs zs = 1 := by
  have e : openE x bs zs = 1 := by unfold openE; rw [if_pos h]
  refine ⟨?_, e⟩
  unfold openT
  rw [e]
  rfl
set_option maxHeartbeats 1000000 in
theorem awake6_any (w : World) : Calls Try.prog 11 #[] w fun e w' => e = .returned (.bool true) ∧ Below w.heap.size w w' := by
  have c1 : ∀ g w, Bytes w (some ⟨g, 0, none⟩) 4 [116, 101, 120, 116] → Calls Try.prog 13 #[.int .u64 1, .int .u64 2, .slice none 0 0, .slice (some ⟨g, 0, none⟩) 4 4] w (GivesB (boxB 1#64 2#64 [] [116, 101, 120, 116]) 0 w) := fun g w h => by
    have h' := sealE_all 1#64 2#64 none (some ⟨g, 0, none⟩) 0 0 4 4 [] [116, 101, 120, 116] w (no_bytes w) h (by decide) (by decide) (by decide) (by decide)
    rw [(seal_small (x := 1#64) (y := 2#64) (bs := []) (ts := [116, 101, 120, 116]) (by decide) (by decide)).1, (seal_small (x := 1#64) (y := 2#64) (bs := []) (ts := [116, 101, 120, 116]) (by decide) (by decide)).2] at h'
    exact h'
  obtain ⟨hT, hE⟩ := open_box (x := 1#64) (y := 2#64) (bs := []) (ts := [116, 101, 120, 116]) (by decide) (by decide) (by decide)
  have hbl : (boxB 1#64 2#64 [] [116, 101, 120, 116]).length = 20 := box_len _ _ _ _
  generalize boxB 1#64 2#64 [] [116, 101, 120, 116] = Z at *
  obtain ⟨hT2, hE2⟩ := open_short (x := 1#64) (bs := []) (zs := Z.take 15) (by rw [List.length_take]; omega)
  have c2 : ∀ w a c, Bytes w (some a) 20 Z → 20 ≤ c → c ≤ 9223372036854775807 → Calls Try.prog 16 #[.int .u64 1, .slice none 0 0, .slice (some a) 20 c] w (GivesB [116, 101, 120, 116] 0 w) := fun w a c h hc hm => by
    have h' := openE_all 1#64 none (some a) 0 0 20 c [] Z w (no_bytes w) h (by decide) (by decide) hc hm
    rw [hT, hE] at h'
    exact h'
  have c3 : ∀ w a c, Bytes w (some a) 20 Z → 20 ≤ c → c ≤ 9223372036854775807 → Calls Try.prog 16 #[.int .u64 1, .slice none 0 0, .slice (some a) 15 c] w (GivesB [] 1 w) := fun w a c h hc hm => by
    have h' := openE_all 1#64 none (some a) 0 0 15 c [] (Z.take 15) w (no_bytes w) (h.take 15 (by decide)) (by decide) (by decide) (by omega) hm
    rw [hT2, hE2] at h'
    exact h'
  have C1 := Lib.hid c1
  have C2 := Lib.hid c2
  have C3 := Lib.hid c3
  have HBL := Lib.hid hbl
  clear c1 c2 c3 hbl hT hE hT2 hE2
  have HX := Lib.hid (text_bytes w)
  have HB0 := Lib.hid ((Below.refl w.heap.size w).alloc (Nat.le_refl _) (.cells #[.int .u8 116, .int .u8 101, .int .u8 120, .int .u8 116] 5 (4, 5)))
  have kc := fun (w : World) (C : Array Value) (n c : Nat) => Lib.run_convert_bytes_const (P := Try.prog) w 23 5 C n c Try.underlying23 Try.underlying5
  go_enter Try.func11, Try.ntmps11
  go_wp2_with fail
  refine (C1.out _ _ HX.out).mono ?_
  rintro e w1 ⟨A1, n1, k1, rfl, hy1, hk1, hm1, hb1⟩
  have hn1 : n1 = 20 := by rw [← hy1.len]; exact HBL.out
  subst hn1
  obtain ⟨a1, rfl, _⟩ := hy1.at_ 0 (by decide)
  have HY1 := Lib.hid hy1
  have HB1 := Lib.hid (HB0.out.trans (hb1.mono HB0.out.size))
  have hkI : (15 : Int) ≤ (k1 : Int) := by omega
  clear hy1 hb1
  go_wp2_with fail
  refine (C2.out _ _ _ HY1.out hk1 hm1).mono ?_
  rintro e w2 ⟨A2, n2, k2, rfl, hy2, _, _, hb2⟩
  have HY2 := Lib.hid hy2
  have HY12 := Lib.hid (HY1.out.below hb2)
  have HB2 := Lib.hid (HB1.out.trans (hb2.mono HB1.out.size))
  clear hy2 hb2
  go_wp2_with fail
  refine (C3.out _ _ _ HY12.out hk1 hm1).mono ?_
  rintro e w3 ⟨A3, n3, k3, rfl, _, _, _, hb3⟩
  have hcv := conv_bytes (cap := k2) (HY2.out.below hb3)
  rw [show strOfNums [116, 101, 120, 116] = ⟨#[116, 101, 120, 116]⟩ from rfl] at hcv
  have HB3 := Lib.hid (HB2.out.trans (hb3.mono HB2.out.size))
  clear hb3
  go_wp2
  go_ret
  exact ⟨rfl, HB3.out⟩
end Go.Proofs.Ytgfcbgnlkiebhaa
