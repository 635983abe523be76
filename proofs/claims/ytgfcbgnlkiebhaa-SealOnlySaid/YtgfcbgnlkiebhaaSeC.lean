/- tag and Seal of the reference. -/
import Derived.Test.YtgfcbgnlkiebhaaSeB
namespace Go.Proofs.Ytgfcbgnlkiebhaa
open Go.RowKit
set_option maxRecDepth 100000

def tagW (x y : BitVec 64) (bs hs : List Int) : BitVec 64 := sipMac x 6 (wsBytes [y, BitVec.ofInt 64 (bs.length : Int)] ++ bs ++ hs)
set_option maxHeartbeats 2000000 in
theorem tagR_any (x y : BitVec 64) (A B : Option Addr) (n c m d : Nat) (bs hs : List Int) (w : World) (hA : Bytes w A n bs) (hB : Bytes w B m hs) (hn : n ≤ 100000) (hm : m ≤ 100000) :
    Calls Try.prog 26 #[.int .u64 (val x), .int .u64 (val y), .slice A n c, .slice B m d] w fun e w' => e = .returned (.int .u64 (val (tagW x y bs hs))) ∧ Below w.heap.size w w' := by
  have hl := hA.len
  have HA := Lib.hid hA
  have HB := Lib.hid hB
  have hnw : IntKind.u64.wrap (n : Int) = (n : Int) := by rw [IntKind.wrap_u64]; omega
  have hnv : (n : Int) = val (BitVec.ofInt 64 (n : Int)) := val_of (by omega) (by omega)
  have hW2 := Ws.two w y (BitVec.ofInt 64 (n : Int))
  rw [← hnv] at hW2
  have HW2 := Lib.hid hW2
  obtain ⟨q, hq⟩ : ∃ q, tagW x y bs hs = q := ⟨_, rfl⟩
  obtain ⟨nb, hnb⟩ : ∃ nb, BitVec.ofInt 64 (n : Int) = nb := ⟨_, rfl⟩
  rw [hnb] at HW2
  obtain ⟨T1, hT1⟩ : ∃ T1, wsBytes [y, nb] = T1 := ⟨_, rfl⟩
  obtain ⟨T2, hT2⟩ : ∃ T2, T1 ++ bs = T2 := ⟨_, rfl⟩
  obtain ⟨T3, hT3⟩ : ∃ T3, T2 ++ hs = T3 := ⟨_, rfl⟩
  have HT1 := Lib.hid hT1
  have HT2 := Lib.hid hT2
  have HT3 := Lib.hid hT3
  have HG : Hid (∀ z ∈ T3, 0 ≤ z ∧ z ≤ 255) := Lib.hid (by
    intro z hz
    rw [← hT3, ← hT2, ← hT1] at hz
    rcases List.mem_append.1 hz with h1 | h1
    · rcases List.mem_append.1 h1 with h2 | h2
      · exact wsBytes_rng _ z h2
      · exact HA.out.rng z h2
    · exact HB.out.rng z h1)
  have HQ : Hid (sipMac x 6 T3 = q) := Lib.hid (by rw [← hq]; unfold tagW; rw [hl, hnb, hT1, hT2, hT3])
  rw [hq]
  clear hT1 hT2 hT3 hnb
  clear hA hB hnv hW2 hl hq
  go_enter Try.func26, Try.ntmps26
  go_wp2_with fail
  refine (wordsR_any _ 2 2 _ _ HW2.out (by omega)).mono ?_
  rintro e w1 ⟨v1, rfl, ho, hb⟩
  have HR1 := Lib.hid (Row.lower (Row.of_own ho) (show w.heap.size ≤ (w.alloc (.cells #[.int .u64 (val y), .int .u64 (n : Int)] 22)).heap.size by simp))
  rw [HT1.out] at HR1
  have HB1 := Lib.hid (((Below.refl w.heap.size w).alloc (Nat.le_refl _) (.cells #[.int .u64 (val y), .int .u64 (n : Int)] 22)).trans (hb.mono (by simp)))
  have HA1 := Lib.hid (HA.out.below HB1.out)
  have HH1 := Lib.hid (HB.out.below HB1.out)
  have hs1 := HB1.out.size
  clear ho hb
  go_wp2_with (at_builtin; refine app_row rfl _ _ rfl w.heap.size _ (8 * 2) T1 A n c bs HR1.out rfl HA1.out rfl (by omega) hs1 ?_)
  intro v2 w2 hr2 hb2
  rw [HT2.out] at hr2
  have HR2 := Lib.hid hr2
  have HB2 := Lib.hid (HB1.out.trans hb2)
  have HH2 := Lib.hid (HB.out.below HB2.out)
  have hs2 := HB2.out.size
  clear hr2 hb2
  go_wp2_with (at_builtin; refine app_row rfl _ _ rfl w.heap.size _ (8 * 2 + n) T2 B m d hs HR2.out rfl HH2.out rfl (by omega) hs2 ?_)
  intro v3 w3 hr3 hb3
  rw [HT3.out] at hr3
  obtain ⟨A3, k3, rfl, _, _, hy3⟩ := hr3.bytes HG.out
  have HY3 := Lib.hid hy3
  have HB3 := Lib.hid (HB2.out.trans hb3)
  clear hr3 hb3 hy3
  go_wp2_with fail
  refine (macR_any x 6 A3 _ k3 _ w3 HY3.out (by omega)).mono ?_
  rintro e w4 ⟨rfl, hb4⟩
  rw [HQ.out]
  have HB4 := Lib.hid (HB3.out.trans (hb4.mono HB3.out.size))
  clear hb4
  go_wp2
  go_ret
  exact ⟨rfl, HB4.out⟩
/-- a box -/
def boxB (x y : BitVec 64) (bs ts : List Int) : List Int := wsBytes [y] ++ mixL ts (strN x y ts.length) ts.length ++ wsBytes [tagW x y bs (mixL ts (strN x y ts.length) ts.length)]
theorem sealR_big (x y : BitVec 64) (A B : Option Addr) (n c m d : Nat) (w : World) (h : 1024 < m ∨ 1024 < n) :
    Calls Try.prog 14 #[.int .u64 (val x), .int .u64 (val y), .slice A n c, .slice B m d] w fun e w' => e = .returned (.tuple #[.slice none 0 0, .int .i64 8]) ∧ w = w' := by
  by_cases hm : 1024 < m
  · have h1 : (1024 : Int) < (m : Int) := by omega
    go_enter Try.func14, Try.ntmps14
    go_wp2
    go_ret2
    exact ⟨rfl, rfl⟩
  · have h1 : ¬ (1024 : Int) < (m : Int) := by omega
    have h2 : (1024 : Int) < (n : Int) := by omega
    go_enter Try.func14, Try.ntmps14
    go_wp2
    go_ret2
    exact ⟨rfl, rfl⟩
set_option maxHeartbeats 2000000 in
theorem sealR_ok (x y : BitVec 64) (A B : Option Addr) (n c m d : Nat) (bs ts : List Int) (w : World) (hA : Bytes w A n bs) (hB : Bytes w B m ts) (hn : n ≤ 1024) (hm : m ≤ 1024) :
    Calls Try.prog 14 #[.int .u64 (val x), .int .u64 (val y), .slice A n c, .slice B m d] w fun e w' => ∃ v, e = .returned (.tuple #[v, .int .i64 0]) ∧ Row w' w.heap.size v (m + 16) (boxB x y bs ts) ∧ Below w.heap.size w w' := by
  have h1 : ¬ (1024 : Int) < (m : Int) := by omega
  have h2 : ¬ (1024 : Int) < (n : Int) := by omega
  have hl := hB.len
  have HA := Lib.hid hA
  have HB := Lib.hid hB
  have HL := Lib.hid hl
  clear hA hB hl
  go_enter Try.func14, Try.ntmps14
  go_wp2_with fail
  refine (mixR_any x y B m d ts _ HB.out hm).mono ?_
  rintro e w1 ⟨v1, rfl, hr1, hb1⟩
  obtain ⟨hid, hhid⟩ : ∃ hid, mixL ts (strN x y m) m = hid := ⟨_, rfl⟩
  have hrng : ∀ z ∈ hid, 0 ≤ z ∧ z ≤ 255 := by
    rw [← hhid]
    intro z hz
    obtain ⟨i, hi, rfl⟩ := List.mem_map.1 hz
    have hi2 : i < m := by simpa using hi
    have hsl : (strN x y m).length = m := by unfold strN; rw [List.length_take, strB_len]; omega
    refine xorB_rng (HB.out.byte i hi2) ?_
    rw [show (strN x y m).getD i 0 = (strN x y m)[i] by simp [List.getD, List.getElem?_eq_getElem (show i < (strN x y m).length by omega)]]
    exact strB_rng x y _ _ (List.mem_of_mem_take (List.getElem_mem (show i < (strN x y m).length by omega)))
  rw [hhid] at hr1
  obtain ⟨T1, hT1⟩ : ∃ T1, wsBytes [y] = T1 := ⟨_, rfl⟩
  obtain ⟨T2, hT2⟩ : ∃ T2, T1 ++ hid = T2 := ⟨_, rfl⟩
  have HT1 := Lib.hid hT1
  have HT2 := Lib.hid hT2
  have HBX : Hid (T2 ++ wsBytes [tagW x y bs hid] = boxB x y bs ts) := Lib.hid (by unfold boxB; rw [HL.out, hhid, hT1, hT2])
  obtain ⟨A1, k1, rfl, _, _, hy1⟩ := hr1.bytes hrng
  have HY1 := Lib.hid hy1
  have HB1 := Lib.hid hb1
  have hs1 := hb1.size
  have HRG := Lib.hid hrng
  clear hr1 hy1 hb1 hhid hrng hT1 hT2
  go_wp2_with fail
  refine (wordsR_any (some ⟨w1.heap.size, 0, none⟩) 1 1 [y] _ (Ws.one w1 y) (by omega)).mono ?_
  rintro e w2 ⟨v2, rfl, ho2, hb2⟩
  have HR2 := Lib.hid (Row.lower (Row.of_own ho2) (show w1.heap.size ≤ (w1.alloc (.cells #[.int .u64 (val y)] 22)).heap.size by simp))
  have hg2 : Below w1.heap.size w1 w2 := ((Below.refl _ w1).alloc (Nat.le_refl _) (.cells #[.int .u64 (val y)] 22)).trans (hb2.mono (by simp))
  have HG2 := Lib.hid hg2
  have HY2 := Lib.hid (HY1.out.below hg2)
  have hs2 := hg2.size
  clear ho2 hb2 hg2
  obtain ⟨A2, k2, rfl, _, _, _⟩ := HR2.out.bytes (wsBytes_rng _)
  rw [HT1.out] at HR2
  go_wp2_with (at_builtin; refine app_row rfl _ _ rfl w1.heap.size _ (8 * 1) T1 A1 m k1 hid HR2.out rfl HY2.out rfl (by omega) hs2 ?_)
  intro v3 w3 hr3 hb3
  rw [HT2.out] at hr3
  have HT2r : Hid (∀ z ∈ T2, 0 ≤ z ∧ z ≤ 255) := Lib.hid (by
    intro z hz
    rw [← HT2.out, ← HT1.out] at hz
    rcases List.mem_append.1 hz with h2 | h2
    · exact wsBytes_rng _ z h2
    · exact HRG.out z h2)
  obtain ⟨A3, k3, rfl, _, _, _⟩ := hr3.bytes HT2r.out
  have HR3 := Lib.hid hr3
  have HG3 := Lib.hid (HG2.out.trans hb3)
  have HB3 := Lib.hid (HB1.out.trans (HG3.out.mono hs1))
  have hs3 := HG3.out.size
  have HA3 := Lib.hid (HA.out.below HB3.out)
  have HY3 : Hid (Bytes w3 A1 m hid) := Lib.hid (HY1.out.below HG3.out)
  clear hr3 hb3
  obtain ⟨q, hq⟩ : ∃ q, tagW x y bs hid = q := ⟨_, rfl⟩
  have HQ := Lib.hid hq
  rw [hq] at HBX
  clear hq
  go_wp2_with fail
  refine (tagR_any x y A A1 n c m k1 bs hid w3 HA3.out HY3.out (by omega) (by omega)).mono ?_
  rintro e w4 ⟨rfl, hb4⟩
  rw [HQ.out]
  have HR4 := Lib.hid (HR3.out.below hb4)
  have HG4 := Lib.hid (HG3.out.trans (hb4.mono hs3))
  have hs4 := HG4.out.size
  clear hb4
  go_wp2_with fail
  refine (wordsR_any (some ⟨w4.heap.size, 0, none⟩) 1 1 [q] _ (Ws.one w4 q) (by omega)).mono ?_
  rintro e w5 ⟨v5, rfl, ho5, hb5⟩
  obtain ⟨A5, k5, rfl, _, _, hy5⟩ := own_bytes ho5 (wsBytes_rng _)
  have hg5 : Below w4.heap.size w4 w5 := ((Below.refl _ w4).alloc (Nat.le_refl _) (.cells #[.int .u64 (val q)] 22)).trans (hb5.mono (by simp))
  have HR5 := Lib.hid (HR4.out.below hg5)
  have HG5 := Lib.hid (HG4.out.trans (hg5.mono hs4))
  have HY5 := Lib.hid hy5
  have hs5 := HG5.out.size
  clear ho5 hb5 hg5 hy5
  go_wp2_with (at_builtin; refine app_row rfl _ _ rfl w1.heap.size _ (8 * 1 + m) T2 A5 (8 * 1) k5 (wsBytes [q]) HR5.out rfl HY5.out rfl (by omega) hs5 ?_)
  intro v6 w6 hr6 hb6
  rw [HBX.out] at hr6
  have HR6 : Hid (Row w6 w.heap.size v6 (m + 16) (boxB x y bs ts)) := Lib.hid (by rw [show m + 16 = 8 * 1 + m + 8 * 1 by omega]; exact Row.lower hr6 hs1)
  have HB6 := Lib.hid (HB1.out.trans ((HG5.out.trans hb6).mono hs1))
  clear hr6 hb6
  go_wp2
  go_ret2
  exact ⟨v6, rfl, HR6.out, HB6.out⟩
end Go.Proofs.Ytgfcbgnlkiebhaa
