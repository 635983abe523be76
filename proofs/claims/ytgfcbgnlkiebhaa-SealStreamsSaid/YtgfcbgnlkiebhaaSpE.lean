/- Seal of the program. -/
import Derived.Test.YtgfcbgnlkiebhaaSpD
namespace Go.Proofs.Ytgfcbgnlkiebhaa
open Go.RowKit
set_option maxRecDepth 100000
theorem tagE_any (x y : BitVec 64) (A : Option Addr) (a : Addr) (n c M d : Nat) (bs zs hs : List Int) (w : World) (hA : Bytes w A n bs) (hB : Bytes w (some a) (M + 8) zs) (hn : n ≤ 1024) (hM : M ≤ 1024) (hd : M + 8 ≤ d) (hhs : zs.drop 8 = hs) (hy : zs.take 8 = wsBytes [y]) :
    Calls Try.prog 24 #[.int .u64 (val x), .slice A n c, .slice (some a) (M + 8) d] w fun e w' => e = .returned (tagV (tagW x y bs hs)) ∧ Below w.heap.size w w' := by
  by_cases h : d = 8
  · obtain rfl : M = 0 := by omega
    subst h
    exact tagE_full x y A a n c bs zs hs w hA hB hn hhs hy
  · exact tagE_more x y A a n c M d bs zs hs w hA hB hn hM hd h hhs hy
theorem sealE_big (x y : BitVec 64) (A B : Option Addr) (n c m d : Nat) (w : World) (h : 1024 < m ∨ 1024 < n) :
    Calls Try.prog 13 #[.int .u64 (val x), .int .u64 (val y), .slice A n c, .slice B m d] w fun e w' => e = .returned (.tuple #[.slice none 0 0, .int .i64 8]) ∧ w = w' := by
  by_cases hm : 1024 < m
  · have h1 : (1024 : Int) < (m : Int) := by omega
    go_enter Try.func13, Try.ntmps13
    go_wp2
    go_ret2
    exact ⟨rfl, rfl⟩
  · have h1 : ¬ (1024 : Int) < (m : Int) := by omega
    have h2 : (1024 : Int) < (n : Int) := by omega
    go_enter Try.func13, Try.ntmps13
    go_wp2
    go_ret2
    exact ⟨rfl, rfl⟩
theorem tag_bytes (w : World) (q : BitVec 64) : Bytes (w.alloc (.cells #[.int .u8 (wb q 0), .int .u8 (wb q 1), .int .u8 (wb q 2), .int .u8 (wb q 3), .int .u8 (wb q 4), .int .u8 (wb q 5), .int .u8 (wb q 6), .int .u8 (wb q 7)] 43)) (some ⟨w.heap.size, 0, none⟩) 8 (wsBytes [q]) := by
  rw [one_word]
  refine ⟨wbs_len q 8, fun z hz => wsBytes_rng [q] z (by rw [one_word]; exact hz), fun i hi => ⟨_, rfl, ?_⟩⟩
  rw [addr_add]
  have h := heap_alloc_new w (.cells #[.int .u8 (wb q 0), .int .u8 (wb q 1), .int .u8 (wb q 2), .int .u8 (wb q 3), .int .u8 (wb q 4), .int .u8 (wb q 5), .int .u8 (wb q 6), .int .u8 (wb q 7)] 43)
  unfold World.cell?
  rw [h]
  rcases (by omega : i = 0 ∨ i = 1 ∨ i = 2 ∨ i = 3 ∨ i = 4 ∨ i = 5 ∨ i = 6 ∨ i = 7) with rfl | rfl | rfl | rfl | rfl | rfl | rfl | rfl <;> rfl
set_option maxHeartbeats 2000000 in
theorem sealE_ok (x y : BitVec 64) (A B : Option Addr) (n c m d : Nat) (bs ts : List Int) (w : World) (hA : Bytes w A n bs) (hB : Bytes w B m ts) (hn : n ≤ 1024) (hm : m ≤ 1024) :
    Calls Try.prog 13 #[.int .u64 (val x), .int .u64 (val y), .slice A n c, .slice B m d] w fun e w' => ∃ v, e = .returned (.tuple #[v, .int .i64 0]) ∧ Row w' w.heap.size v (m + 16) (boxB x y bs ts) ∧ Below w.heap.size w w' := by
  have h1 : ¬ (1024 : Int) < (m : Int) := by omega
  have h2 : ¬ (1024 : Int) < (n : Int) := by omega
  have hl := hB.len
  have HA := Lib.hid hA
  have HB := Lib.hid hB
  have HL := Lib.hid hl
  clear hA hB hl
  go_enter Try.func13, Try.ntmps13
  go_wp2_with fail
  refine (words_any (some ⟨w.heap.size, 0, none⟩) 1 1 [y] _ (Ws.one w y) (by omega)).mono ?_
  rintro e w2 ⟨v2, rfl, ho2, hb2⟩
  have HR2 := Lib.hid (Row.lower (Row.of_own ho2) (show w.heap.size ≤ (w.alloc (.cells #[.int .u64 (val y)] 22)).heap.size by simp))
  have hg2 : Below w.heap.size w w2 := ((Below.refl _ w).alloc (Nat.le_refl _) (.cells #[.int .u64 (val y)] 22)).trans (hb2.mono (by simp))
  have HG2 := Lib.hid hg2
  have HB2 := Lib.hid (HB.out.below hg2)
  have hs2 := hg2.size
  clear ho2 hb2 hg2
  obtain ⟨g, k2, rfl, hg, hk2, hkm2, _, _⟩ := HR2.out.slot (by omega)
  go_wp2_with fail
  refine (combineE_any x y B m d ts _ HB2.out hm).mono ?_
  rintro e w1 ⟨v1, rfl, hr1, hb1⟩
  obtain ⟨hid, hhid⟩ : ∃ hid, mixL ts (strN x y m) m = hid := ⟨_, rfl⟩
  have hrng : ∀ z ∈ hid, 0 ≤ z ∧ z ≤ 255 := by
    rw [← hhid]
    exact mixL_rng HB.out.rng (strN_rng x y m)
  rw [hhid] at hr1
  obtain ⟨T1, hT1⟩ : ∃ T1, wsBytes [y] = T1 := ⟨_, rfl⟩
  obtain ⟨T2, hT2⟩ : ∃ T2, T1 ++ hid = T2 := ⟨_, rfl⟩
  have hT1l : T1.length = 8 := by rw [← hT1, wsBytes_len]; rfl
  have HT1 := Lib.hid hT1
  have HT2 := Lib.hid hT2
  have HTd : Hid (T2.drop 8 = hid) := Lib.hid (by rw [← hT2, List.drop_left' hT1l])
  have HTt : Hid (T2.take 8 = wsBytes [y]) := Lib.hid (by rw [← hT2, List.take_left' hT1l, hT1])
  have HBX : Hid (T2 ++ wsBytes [tagW x y bs hid] = boxB x y bs ts) := Lib.hid (by unfold boxB; rw [HL.out, hhid, hT1, hT2])
  obtain ⟨A1, k1, rfl, _, _, hy1⟩ := hr1.bytes hrng
  have HY1 := Lib.hid hy1
  have HR1 := Lib.hid (HR2.out.below hb1)
  rw [hT1] at HR1
  have HG1 := Lib.hid (HG2.out.trans (hb1.mono hs2))
  have hs1 := HG1.out.size
  have HRG := Lib.hid hrng
  clear hr1 hy1 hb1 hhid hrng hT1 hT2 HR2
  go_wp2_with (at_builtin; refine app_row rfl _ _ rfl w.heap.size _ (8 * 1) T1 A1 m k1 hid HR1.out rfl HY1.out rfl (by omega) hs1 ?_)
  intro v3 w3 hr3 hb3
  rw [HT2.out] at hr3
  have HT2r : Hid (∀ z ∈ T2, 0 ≤ z ∧ z ≤ 255) := Lib.hid (by
    intro z hz
    rw [← HT2.out, ← HT1.out] at hz
    rcases List.mem_append.1 hz with h2 | h2
    · exact wsBytes_rng _ z h2
    · exact HRG.out z h2)
  rw [show 8 * 1 + m = m + 8 by omega] at hr3
  obtain ⟨g3, k3, rfl, _, hk3, _, _, _⟩ := hr3.slot (by omega)
  obtain ⟨A3, k3', hv3, _, _, hy3⟩ := hr3.bytes HT2r.out
  cases hv3
  have HR3 := Lib.hid hr3
  have HY3 := Lib.hid hy3
  have HG3 := Lib.hid (HG1.out.trans hb3)
  have hs3 := HG3.out.size
  have HA3 := Lib.hid (HA.out.below HG3.out)
  clear hr3 hb3 hy3
  obtain ⟨q, hq⟩ : ∃ q, tagW x y bs hid = q := ⟨_, rfl⟩
  have HQ := Lib.hid hq
  rw [hq] at HBX
  clear hq
  go_wp2_with fail
  refine (tagE_any x y A _ n c m k3 bs T2 hid w3 HA3.out HY3.out hn hm hk3 HTd.out HTt.out).mono ?_
  rintro e w4 ⟨rfl, hb4⟩
  rw [HQ.out]
  have HR4 := Lib.hid (HR3.out.below hb4)
  have HG4 := Lib.hid (HG3.out.trans (hb4.mono hs3))
  have hs4 := HG4.out.size
  clear hb4
  unfold tagV
  have hb5 := (Below.refl w4.heap.size w4).alloc (Nat.le_refl _) (.cells #[.int .u8 (wb q 0), .int .u8 (wb q 1), .int .u8 (wb q 2), .int .u8 (wb q 3), .int .u8 (wb q 4), .int .u8 (wb q 5), .int .u8 (wb q 6), .int .u8 (wb q 7)] 43)
  have HY5 := Lib.hid (tag_bytes w4 q)
  have HR5 := Lib.hid (HR4.out.below hb5)
  have HG5 := Lib.hid (HG4.out.trans (hb5.mono hs4))
  have hs5 := HG5.out.size
  clear hb5
  go_wp2_with (at_builtin; refine app_row rfl _ _ rfl w.heap.size _ (m + 8) T2 (some ⟨w4.heap.size, 0, none⟩) 8 8 (wsBytes [q]) HR5.out rfl HY5.out rfl (by omega) hs5 ?_)
  intro v6 w6 hr6 hb6
  rw [HBX.out, show m + 8 + 8 = m + 16 by omega] at hr6
  have HR6 := Lib.hid hr6
  have HB6 := Lib.hid (HG5.out.trans hb6)
  clear hr6 hb6
  go_wp2
  go_ret2
  exact ⟨v6, rfl, HR6.out, HB6.out⟩
end Go.Proofs.Ytgfcbgnlkiebhaa
