/- made and spoil of the laws of layer 7. -/
import Derived.Test.YtgoajnljgbcmdaaFlF
namespace Go.Proofs.Ytgoajnljgbcmdaa
open Go.RowKit
set_option maxRecDepth 100000

theorem bits_low (i : Nat) (hi : i ≤ 62) (x : Int) : bits .and .i64 x (2 ^ i - 1) = x % 2 ^ i := by
  have hpos : 0 < 2 ^ i := Nat.two_pow_pos i
  have hle : 2 ^ i ≤ 2 ^ 62 := Nat.pow_le_pow_right (by decide) hi
  obtain ⟨a, ha⟩ := Int.eq_ofNat_of_zero_le (Int.emod_nonneg x (b := 18446744073709551616) (by decide))
  have hc : ((2 : Int) ^ i - 1) = ((2 ^ i - 1 : Nat) : Int) := by
    rw [Int.natCast_sub hpos]; simp
  have hx : BitVec.ofInt 64 x = BitVec.ofNat 64 a := by
    apply BitVec.eq_of_toNat_eq
    rw [BitVec.toNat_ofInt, BitVec.toNat_ofNat]
    have h2 : x % ((2 ^ 64 : Nat) : Int) = (a : Int) := ha
    rw [h2]
    have : a < 2 ^ 64 := by omega
    rw [Nat.mod_eq_of_lt this]
    simp
  have hd : x % 2 ^ i = ((a % 2 ^ i : Nat) : Int) := by
    have h1 : x % 18446744073709551616 % ((2 ^ i : Nat) : Int) = x % ((2 ^ i : Nat) : Int) := by
      apply Int.emod_emod_of_dvd
      have : (18446744073709551616 : Int) = ((2 ^ 64 : Nat) : Int) := by decide
      rw [this]
      exact_mod_cast Nat.pow_dvd_pow 2 (show i ≤ 64 by omega)
    rw [ha] at h1
    have e : ((2 ^ i : Nat) : Int) = (2 : Int) ^ i := by simp
    rw [e] at h1
    rw [← h1, ← e]
    norm_cast
  have h64 : (2 ^ i - 1) % 2 ^ 64 = 2 ^ i - 1 := Nat.mod_eq_of_lt (by omega)
  have ha64 : a % 2 ^ 64 = a := Nat.mod_eq_of_lt (by omega)
  show IntKind.i64.wrap ((BitVec.ofInt 64 x &&& BitVec.ofInt 64 (2 ^ i - 1)).toNat : Int) = _
  rw [hx, hc, BitVec.ofInt_natCast, BitVec.toNat_and, BitVec.toNat_ofNat, BitVec.toNat_ofNat, h64, ha64, Nat.and_two_pow_sub_one_eq_mod, hd, IntKind.wrap_i64]
  have : a % 2 ^ i < 2 ^ i := Nat.mod_lt _ hpos
  omega
@[go_sem] theorem and3_ (x : Int) : bits .and .i64 x 3 = x % 4 := bits_low 2 (by decide) x
@[go_sem] theorem and7_ (x : Int) : bits .and .i64 x 7 = x % 8 := bits_low 3 (by decide) x
@[go_sem] theorem and15_ (x : Int) : bits .and .i64 x 15 = x % 16 := bits_low 4 (by decide) x
@[go_sem] theorem and255_ (x : Int) : bits .and .i64 x 255 = x % 256 := bits_low 8 (by decide) x
@[go_sem] theorem and511_ (x : Int) : bits .and .i64 x 511 = x % 512 := bits_low 9 (by decide) x
@[go_sem] theorem and1023_ (x : Int) : bits .and .i64 x 1023 = x % 1024 := bits_low 10 (by decide) x
@[go_sem] theorem and65535_ (x : Int) : bits .and .i64 x 65535 = x % 65536 := bits_low 16 (by decide) x

/-- a slice value that holds numbers -/
structure Nums (w : World) (A : Option Addr) (n : Nat) (zs : List Int) : Prop where
  len : zs.length = n
  at_ : ∀ i, i < n → ∃ a, A = some a ∧ w.cell? (a.add i) = some (.int .i64 (zs.getD i 0))
theorem Nums.below {w w' : World} {A : Option Addr} {n : Nat} {zs : List Int} (h : Nums w A n zs) (hb : Below w.heap.size w w') : Nums w' A n zs :=
  ⟨h.len, fun i hi => by
    obtain ⟨a, e, hc⟩ := h.at_ i hi
    exact ⟨a, e, (hb.cell (cell_in hc)).trans hc⟩⟩
/-- what made answers: some flash of one to four pages of one of three sizes -/
def Made (w : World) (e : Ending) (w' : World) : Prop := ∃ (p k c : Nat) (A : Option Addr) (zs : List Int), e = .returned (.agg #[.int .i64 (p : Int), .slice A (p * k) c]) ∧ (p = 512 ∨ p = 513 ∨ p = 600) ∧ 1 ≤ k ∧ k ≤ 4 ∧ Bytes w' A (p * k) zs ∧ p * k ≤ c ∧ c ≤ 9223372036854775807 ∧ Below w.heap.size w w'
/-- while made changes bytes -/
structure Mk (w W : World) (b : Nat) (P : Int) (g n cap : Nat) (l : List Int) : Prop where
  f : Cs W b 24 [.int .i64 P, .slice (some ⟨g, 0, none⟩) n cap]
  r : Cs W w.heap.size 24 [.int .i64 0, .slice none 0 0]
  row : Row W (w.heap.size + 2) (.slice (some ⟨g, 0, none⟩) n cap) n l
  rng : ∀ z ∈ l, 0 ≤ z ∧ z ≤ 255
  far : w.heap.size + 2 ≤ g
  ne : b ≠ g
  hb : w.heap.size < b
  below : Below w.heap.size w W
theorem Mk.put {w W : World} {b : Nat} {P : Int} {g n cap : Nat} {l : List Int} (h : Mk w W b P g n cap l) (j : Nat) (hj : j < n) (z : Int) (hz : 0 ≤ z ∧ z ≤ 255) : Mk w (W.setCell ⟨g, j, none⟩ (.int .u8 z)) b P g n cap (l.set j z) := by
  have hg := h.far
  refine ⟨h.f.far_set j _ h.ne, h.r.far_set j _ (by omega), h.row.put j hj z, ?_, hg, h.ne, h.hb, h.below.setCell (p := ⟨g, j, none⟩) (by simp only; omega) _⟩
  intro y hy
  rcases List.mem_or_eq_of_mem_set hy with h1 | h1
  · exact h.rng y h1
  · rw [h1]; exact hz
theorem Mk.drew {w W : World} {b : Nat} {P : Int} {g n cap : Nat} {l : List Int} (h : Mk w W b P g n cap l) : Mk w W.drew b P g n cap l :=
  ⟨h.f.drew, h.r.drew, h.row.below (Below.refl _ W).drew, h.rng, h.far, h.ne, h.hb, h.below.drew⟩
set_option maxHeartbeats 8000000 in
theorem made_512 (x : Int) (A : Option Addr) (n c : Nat) (zs : List Int) (w : World) (hA : Nums w A n zs) (hj : x % 65536 % 3 = 0) :
    Calls Try.prog 16 #[.int .i64 x, .slice A n c] w (Made w) := by
  obtain ⟨r, hr⟩ := Int.eq_ofNat_of_zero_le (Int.emod_nonneg (x / 4) (b := 4) (by decide))
  have hrl : r < 4 := by omega
  obtain ⟨k, hk⟩ : ∃ k, 1 + r = k := ⟨_, rfl⟩
  have hkI : 1 + (r : Int) = (k : Int) := by omega
  have hkl : 1 ≤ k ∧ k ≤ 4 := by omega
  have c1 := fun w => newR_own 512 k w (by decide) (by decide) (by omega) (by omega)
  obtain ⟨m, hm⟩ : ∃ m, 512 * k = m := ⟨_, rfl⟩
  rw [hm] at c1
  have C1 := Lib.hid c1
  have HM := Lib.hid hm
  have HK := Lib.hid hkl
  have hn0 : 0 < m := by omega
  have HML : Hid (m ≤ 2400) := Lib.hid (by omega)
  have HN0 := Lib.hid hn0
  have HA := Lib.hid hA
  have hbr := (Below.refl w.heap.size w).alloc (Nat.le_refl _) (.cells #[.int .i64 0, .slice none 0 0] 24)
  have hb0 := hbr.alloc (by simp) (.cells #[.int .i64 512, .int .i64 513, .int .i64 600] 3)
  have hcr := (Cs.new w 24 [.int .i64 0, .slice none 0 0]).grow (.cells #[.int .i64 512, .int .i64 513, .int .i64 600] 3)
  have HB0 := Lib.hid hb0
  have HCR := Lib.hid hcr
  have HS0 : Hid (((w.alloc (.cells #[.int .i64 0, .slice none 0 0] 24)).alloc (.cells #[.int .i64 512, .int .i64 513, .int .i64 600] 3)).heap.size = w.heap.size + 2) := Lib.hid (by simp)
  clear c1 hm hkl hrl hk hA hbr hb0 hcr hn0
  go_enter Try.func16, Try.ntmps16
  go_wp2_with fail
  refine (C1.out _).mono ?_
  rintro e w1 ⟨A1, cap, rfl, hr1, hb1⟩
  obtain ⟨g, _, e1, hg, hcap, hcm, _, _⟩ := hr1.slot HN0.out
  cases e1
  rw [HS0.out] at hr1 hg
  have hgl : g < w1.heap.size := by
    rcases hr1.2 with ⟨e9, _⟩ | ⟨g9, _, e9, _, h9, _⟩
    · cases e9
    · cases e9
      exact h9
  have hbf := (Below.refl w1.heap.size w1).alloc (Nat.le_refl _) (.cells #[.int .i64 512, .slice (some ⟨g, 0, none⟩) m cap] 24)
  have hfc := Cs.new w1 24 [.int .i64 512, .slice (some ⟨g, 0, none⟩) m cap]
  have hrc := (HCR.out.below hb1 (by rw [HS0.out]; omega)).grow (.cells #[.int .i64 512, .slice (some ⟨g, 0, none⟩) m cap] 24)
  have HB1 := Lib.hid (HB0.out.trans (hb1.mono HB0.out.size))
  have HMK : Hid (Mk w (w1.alloc (.cells #[.int .i64 512, .slice (some ⟨g, 0, none⟩) m cap] 24)) w1.heap.size 512 g m cap (List.replicate m 255)) := Lib.hid ⟨hfc, hrc, hr1.below hbf, ff_rng _, hg, by omega, by omega, HB1.out.trans (hbf.mono HB1.out.size)⟩
  have HCP := Lib.hid (And.intro hcap hcm)
  clear hr1 hb1 hbf hfc hrc hcap hcm hg hgl
  go_wp2_with fail
  go_loopw [7] (fun iv wr => ∃ (i : Nat) (l : List Int), i ≤ n ∧ i ≤ 12 ∧ iv = .int .i64 (i : Int) ∧ Hid (Mk w wr w1.heap.size 512 g m cap l)) (fun iv _ => n - (intOf iv).toNat)
  case atStart => exact ⟨0, _, Nat.zero_le _, Nat.zero_le _, rfl, HMK⟩
  case round =>
    obtain ⟨i, l, hin, hi12, rfl, HI⟩ := hrel
    clear HMK
    have hF0 := HI.out.f.cell 0
    have hF1 := HI.out.f.cell 1
    have hR0 := HI.out.r.cell 0
    have hR1 := HI.out.r.cell 1
    have hG0 := HI.out.r.free 0
    have hG1 := HI.out.r.free 1
    have hne : ¬ w1.heap.size = w.heap.size := by have := HI.out.hb; omega
    have hne2 : ¬ w.heap.size = w1.heap.size := by have := HI.out.hb; omega
    simp only [List.getElem?_cons_succ, List.getElem?_cons_zero] at hF0 hF1 hR0 hR1
    by_cases hgo : i < n ∧ i < 12
    · obtain ⟨hin2, hi2⟩ := hgo
      have t1 : (i : Int) < (n : Int) := by omega
      have t2 : (i : Int) < 12 := by omega
      obtain ⟨a, rfl, hcz⟩ := (HA.out.below HI.out.below).at_ i hin2
      obtain ⟨z, hz⟩ : ∃ z, zs.getD i 0 = z := ⟨_, rfl⟩
      rw [hz] at hcz
      obtain ⟨P, hP⟩ := Int.eq_ofNat_of_zero_le (Int.emod_nonneg z (b := 65536) (by decide))
      obtain ⟨J, hJ⟩ : ∃ J, P % m = J := ⟨_, rfl⟩
      have hJl : J < m := by rw [← hJ]; exact Nat.mod_lt _ HN0.out
      have hJI : (P : Int) % (m : Int) = (J : Int) := by rw [← hJ]; exact (Int.natCast_emod _ _).symm
      have hJT : Int.tmod (P : Int) (m : Int) = (J : Int) := by rw [Int.tmod_eq_emod_of_nonneg (by omega)]; exact hJI
      have hm0 : ¬ (m : Int) = 0 := by have := HN0.out; omega
      have hJ2 : (J : Int) < (m : Int) := by omega
      obtain ⟨_, _, e5, _, _, _, hcell, hfree⟩ := HI.out.row.slot HN0.out
      cases e5
      have hcJ := hcell J hJl
      have hfJ := hfree J hJl
      obtain ⟨ob, ho⟩ : ∃ ob, l.getD J 0 = ob := ⟨_, rfl⟩
      rw [ho] at hcJ
      have hor : 0 ≤ ob ∧ ob ≤ 255 := by
        rw [← ho]
        obtain ⟨_, _, e6, _, _, hy6⟩ := HI.out.row.bytes HI.out.rng
        cases e6
        exact hy6.byte J hJl
      obtain ⟨vb, hv⟩ : ∃ vb, z / 256 % 256 = vb := ⟨_, rfl⟩
      have hvr : 0 ≤ vb ∧ vb ≤ 255 := by omega
      have hvw : IntKind.u8.wrap (z / 256) = vb := by rw [IntKind.wrap_u8]; exact hv
      have hand := and8 hor hvr
      obtain ⟨r2, hr2⟩ : ∃ r2, andB ob vb = r2 := ⟨_, rfl⟩
      rw [hr2] at hand
      have hrr : 0 ≤ r2 ∧ r2 ≤ 255 := by rw [← hr2]; exact andB_rng hor
      have HP := Lib.hid ((HI.out.put J hJl r2 hrr).drew)
      clear hcell hfree hz hJ ho hv hr2 hor hvr hrr hin hi12 hJl
      go_wp2_with fail
      go_region
      all_goals
        go_wp2
        go_roundw
        case rel => exact ⟨i + 1, _, by omega, by omega, by go_num, HP⟩
        case measure => (simp [intOf]; omega)
    · have hrw := (HI.out.row.far 0 (.int .i64 512) (show w.heap.size < w.heap.size + 2 by omega)).far 1 (.slice (some ⟨g, 0, none⟩) m cap) (show w.heap.size < w.heap.size + 2 by omega)
      obtain ⟨A9, c9, e9, _, _, hy9⟩ := hrw.bytes HI.out.rng
      cases e9
      have HY9 := Lib.hid hy9
      have HB9 := Lib.hid ((HI.out.below.setCell (p := ⟨w.heap.size, 0, none⟩) (Nat.le_refl _) (.int .i64 512)).setCell (p := ⟨w.heap.size, 1, none⟩) (Nat.le_refl _) (.slice (some ⟨g, 0, none⟩) m cap))
      clear hrw hy9
      by_cases hin2 : i < n
      · have t1 : (i : Int) < (n : Int) := by omega
        have t2 : ¬ (i : Int) < 12 := by omega
        clear hgo
        go_wp2
        refine bodyPost_ret (v := .agg #[.int .i64 512, .slice (some ⟨g, 0, none⟩) m cap]) (by simp [results, Try.results16, go_sem, *]) rfl ?_
        have hm := HM.out
        subst hm
        exact ⟨512, k, cap, _, _, rfl, by decide, HK.out.1, HK.out.2, HY9.out, HCP.out.1, HCP.out.2, HB9.out⟩
      · have t1 : ¬ (i : Int) < (n : Int) := by omega
        clear hgo
        go_wp2
        refine bodyPost_ret (v := .agg #[.int .i64 512, .slice (some ⟨g, 0, none⟩) m cap]) (by simp [results, Try.results16, go_sem, *]) rfl ?_
        have hm := HM.out
        subst hm
        exact ⟨512, k, cap, _, _, rfl, by decide, HK.out.1, HK.out.2, HY9.out, HCP.out.1, HCP.out.2, HB9.out⟩
set_option maxHeartbeats 8000000 in
theorem made_513 (x : Int) (A : Option Addr) (n c : Nat) (zs : List Int) (w : World) (hA : Nums w A n zs) (hj : x % 65536 % 3 = 1) :
    Calls Try.prog 16 #[.int .i64 x, .slice A n c] w (Made w) := by
  obtain ⟨r, hr⟩ := Int.eq_ofNat_of_zero_le (Int.emod_nonneg (x / 4) (b := 4) (by decide))
  have hrl : r < 4 := by omega
  obtain ⟨k, hk⟩ : ∃ k, 1 + r = k := ⟨_, rfl⟩
  have hkI : 1 + (r : Int) = (k : Int) := by omega
  have hkl : 1 ≤ k ∧ k ≤ 4 := by omega
  have c1 := fun w => newR_own 513 k w (by decide) (by decide) (by omega) (by omega)
  obtain ⟨m, hm⟩ : ∃ m, 513 * k = m := ⟨_, rfl⟩
  rw [hm] at c1
  have C1 := Lib.hid c1
  have HM := Lib.hid hm
  have HK := Lib.hid hkl
  have hn0 : 0 < m := by omega
  have HML : Hid (m ≤ 2400) := Lib.hid (by omega)
  have HN0 := Lib.hid hn0
  have HA := Lib.hid hA
  have hbr := (Below.refl w.heap.size w).alloc (Nat.le_refl _) (.cells #[.int .i64 0, .slice none 0 0] 24)
  have hb0 := hbr.alloc (by simp) (.cells #[.int .i64 512, .int .i64 513, .int .i64 600] 3)
  have hcr := (Cs.new w 24 [.int .i64 0, .slice none 0 0]).grow (.cells #[.int .i64 512, .int .i64 513, .int .i64 600] 3)
  have HB0 := Lib.hid hb0
  have HCR := Lib.hid hcr
  have HS0 : Hid (((w.alloc (.cells #[.int .i64 0, .slice none 0 0] 24)).alloc (.cells #[.int .i64 512, .int .i64 513, .int .i64 600] 3)).heap.size = w.heap.size + 2) := Lib.hid (by simp)
  clear c1 hm hkl hrl hk hA hbr hb0 hcr hn0
  go_enter Try.func16, Try.ntmps16
  go_wp2_with fail
  refine (C1.out _).mono ?_
  rintro e w1 ⟨A1, cap, rfl, hr1, hb1⟩
  obtain ⟨g, _, e1, hg, hcap, hcm, _, _⟩ := hr1.slot HN0.out
  cases e1
  rw [HS0.out] at hr1 hg
  have hgl : g < w1.heap.size := by
    rcases hr1.2 with ⟨e9, _⟩ | ⟨g9, _, e9, _, h9, _⟩
    · cases e9
    · cases e9
      exact h9
  have hbf := (Below.refl w1.heap.size w1).alloc (Nat.le_refl _) (.cells #[.int .i64 513, .slice (some ⟨g, 0, none⟩) m cap] 24)
  have hfc := Cs.new w1 24 [.int .i64 513, .slice (some ⟨g, 0, none⟩) m cap]
  have hrc := (HCR.out.below hb1 (by rw [HS0.out]; omega)).grow (.cells #[.int .i64 513, .slice (some ⟨g, 0, none⟩) m cap] 24)
  have HB1 := Lib.hid (HB0.out.trans (hb1.mono HB0.out.size))
  have HMK : Hid (Mk w (w1.alloc (.cells #[.int .i64 513, .slice (some ⟨g, 0, none⟩) m cap] 24)) w1.heap.size 513 g m cap (List.replicate m 255)) := Lib.hid ⟨hfc, hrc, hr1.below hbf, ff_rng _, hg, by omega, by omega, HB1.out.trans (hbf.mono HB1.out.size)⟩
  have HCP := Lib.hid (And.intro hcap hcm)
  clear hr1 hb1 hbf hfc hrc hcap hcm hg hgl
  go_wp2_with fail
  go_loopw [7] (fun iv wr => ∃ (i : Nat) (l : List Int), i ≤ n ∧ i ≤ 12 ∧ iv = .int .i64 (i : Int) ∧ Hid (Mk w wr w1.heap.size 513 g m cap l)) (fun iv _ => n - (intOf iv).toNat)
  case atStart => exact ⟨0, _, Nat.zero_le _, Nat.zero_le _, rfl, HMK⟩
  case round =>
    obtain ⟨i, l, hin, hi12, rfl, HI⟩ := hrel
    clear HMK
    have hF0 := HI.out.f.cell 0
    have hF1 := HI.out.f.cell 1
    have hR0 := HI.out.r.cell 0
    have hR1 := HI.out.r.cell 1
    have hG0 := HI.out.r.free 0
    have hG1 := HI.out.r.free 1
    have hne : ¬ w1.heap.size = w.heap.size := by have := HI.out.hb; omega
    have hne2 : ¬ w.heap.size = w1.heap.size := by have := HI.out.hb; omega
    simp only [List.getElem?_cons_succ, List.getElem?_cons_zero] at hF0 hF1 hR0 hR1
    by_cases hgo : i < n ∧ i < 12
    · obtain ⟨hin2, hi2⟩ := hgo
      have t1 : (i : Int) < (n : Int) := by omega
      have t2 : (i : Int) < 12 := by omega
      obtain ⟨a, rfl, hcz⟩ := (HA.out.below HI.out.below).at_ i hin2
      obtain ⟨z, hz⟩ : ∃ z, zs.getD i 0 = z := ⟨_, rfl⟩
      rw [hz] at hcz
      obtain ⟨P, hP⟩ := Int.eq_ofNat_of_zero_le (Int.emod_nonneg z (b := 65536) (by decide))
      obtain ⟨J, hJ⟩ : ∃ J, P % m = J := ⟨_, rfl⟩
      have hJl : J < m := by rw [← hJ]; exact Nat.mod_lt _ HN0.out
      have hJI : (P : Int) % (m : Int) = (J : Int) := by rw [← hJ]; exact (Int.natCast_emod _ _).symm
      have hJT : Int.tmod (P : Int) (m : Int) = (J : Int) := by rw [Int.tmod_eq_emod_of_nonneg (by omega)]; exact hJI
      have hm0 : ¬ (m : Int) = 0 := by have := HN0.out; omega
      have hJ2 : (J : Int) < (m : Int) := by omega
      obtain ⟨_, _, e5, _, _, _, hcell, hfree⟩ := HI.out.row.slot HN0.out
      cases e5
      have hcJ := hcell J hJl
      have hfJ := hfree J hJl
      obtain ⟨ob, ho⟩ : ∃ ob, l.getD J 0 = ob := ⟨_, rfl⟩
      rw [ho] at hcJ
      have hor : 0 ≤ ob ∧ ob ≤ 255 := by
        rw [← ho]
        obtain ⟨_, _, e6, _, _, hy6⟩ := HI.out.row.bytes HI.out.rng
        cases e6
        exact hy6.byte J hJl
      obtain ⟨vb, hv⟩ : ∃ vb, z / 256 % 256 = vb := ⟨_, rfl⟩
      have hvr : 0 ≤ vb ∧ vb ≤ 255 := by omega
      have hvw : IntKind.u8.wrap (z / 256) = vb := by rw [IntKind.wrap_u8]; exact hv
      have hand := and8 hor hvr
      obtain ⟨r2, hr2⟩ : ∃ r2, andB ob vb = r2 := ⟨_, rfl⟩
      rw [hr2] at hand
      have hrr : 0 ≤ r2 ∧ r2 ≤ 255 := by rw [← hr2]; exact andB_rng hor
      have HP := Lib.hid ((HI.out.put J hJl r2 hrr).drew)
      clear hcell hfree hz hJ ho hv hr2 hor hvr hrr hin hi12 hJl
      go_wp2_with fail
      go_region
      all_goals
        go_wp2
        go_roundw
        case rel => exact ⟨i + 1, _, by omega, by omega, by go_num, HP⟩
        case measure => (simp [intOf]; omega)
    · have hrw := (HI.out.row.far 0 (.int .i64 513) (show w.heap.size < w.heap.size + 2 by omega)).far 1 (.slice (some ⟨g, 0, none⟩) m cap) (show w.heap.size < w.heap.size + 2 by omega)
      obtain ⟨A9, c9, e9, _, _, hy9⟩ := hrw.bytes HI.out.rng
      cases e9
      have HY9 := Lib.hid hy9
      have HB9 := Lib.hid ((HI.out.below.setCell (p := ⟨w.heap.size, 0, none⟩) (Nat.le_refl _) (.int .i64 513)).setCell (p := ⟨w.heap.size, 1, none⟩) (Nat.le_refl _) (.slice (some ⟨g, 0, none⟩) m cap))
      clear hrw hy9
      by_cases hin2 : i < n
      · have t1 : (i : Int) < (n : Int) := by omega
        have t2 : ¬ (i : Int) < 12 := by omega
        clear hgo
        go_wp2
        refine bodyPost_ret (v := .agg #[.int .i64 513, .slice (some ⟨g, 0, none⟩) m cap]) (by simp [results, Try.results16, go_sem, *]) rfl ?_
        have hm := HM.out
        subst hm
        exact ⟨513, k, cap, _, _, rfl, by decide, HK.out.1, HK.out.2, HY9.out, HCP.out.1, HCP.out.2, HB9.out⟩
      · have t1 : ¬ (i : Int) < (n : Int) := by omega
        clear hgo
        go_wp2
        refine bodyPost_ret (v := .agg #[.int .i64 513, .slice (some ⟨g, 0, none⟩) m cap]) (by simp [results, Try.results16, go_sem, *]) rfl ?_
        have hm := HM.out
        subst hm
        exact ⟨513, k, cap, _, _, rfl, by decide, HK.out.1, HK.out.2, HY9.out, HCP.out.1, HCP.out.2, HB9.out⟩
set_option maxHeartbeats 8000000 in
theorem made_600 (x : Int) (A : Option Addr) (n c : Nat) (zs : List Int) (w : World) (hA : Nums w A n zs) (hj : x % 65536 % 3 = 2) :
    Calls Try.prog 16 #[.int .i64 x, .slice A n c] w (Made w) := by
  obtain ⟨r, hr⟩ := Int.eq_ofNat_of_zero_le (Int.emod_nonneg (x / 4) (b := 4) (by decide))
  have hrl : r < 4 := by omega
  obtain ⟨k, hk⟩ : ∃ k, 1 + r = k := ⟨_, rfl⟩
  have hkI : 1 + (r : Int) = (k : Int) := by omega
  have hkl : 1 ≤ k ∧ k ≤ 4 := by omega
  have c1 := fun w => newR_own 600 k w (by decide) (by decide) (by omega) (by omega)
  obtain ⟨m, hm⟩ : ∃ m, 600 * k = m := ⟨_, rfl⟩
  rw [hm] at c1
  have C1 := Lib.hid c1
  have HM := Lib.hid hm
  have HK := Lib.hid hkl
  have hn0 : 0 < m := by omega
  have HML : Hid (m ≤ 2400) := Lib.hid (by omega)
  have HN0 := Lib.hid hn0
  have HA := Lib.hid hA
  have hbr := (Below.refl w.heap.size w).alloc (Nat.le_refl _) (.cells #[.int .i64 0, .slice none 0 0] 24)
  have hb0 := hbr.alloc (by simp) (.cells #[.int .i64 512, .int .i64 513, .int .i64 600] 3)
  have hcr := (Cs.new w 24 [.int .i64 0, .slice none 0 0]).grow (.cells #[.int .i64 512, .int .i64 513, .int .i64 600] 3)
  have HB0 := Lib.hid hb0
  have HCR := Lib.hid hcr
  have HS0 : Hid (((w.alloc (.cells #[.int .i64 0, .slice none 0 0] 24)).alloc (.cells #[.int .i64 512, .int .i64 513, .int .i64 600] 3)).heap.size = w.heap.size + 2) := Lib.hid (by simp)
  clear c1 hm hkl hrl hk hA hbr hb0 hcr hn0
  go_enter Try.func16, Try.ntmps16
  go_wp2_with fail
  refine (C1.out _).mono ?_
  rintro e w1 ⟨A1, cap, rfl, hr1, hb1⟩
  obtain ⟨g, _, e1, hg, hcap, hcm, _, _⟩ := hr1.slot HN0.out
  cases e1
  rw [HS0.out] at hr1 hg
  have hgl : g < w1.heap.size := by
    rcases hr1.2 with ⟨e9, _⟩ | ⟨g9, _, e9, _, h9, _⟩
    · cases e9
    · cases e9
      exact h9
  have hbf := (Below.refl w1.heap.size w1).alloc (Nat.le_refl _) (.cells #[.int .i64 600, .slice (some ⟨g, 0, none⟩) m cap] 24)
  have hfc := Cs.new w1 24 [.int .i64 600, .slice (some ⟨g, 0, none⟩) m cap]
  have hrc := (HCR.out.below hb1 (by rw [HS0.out]; omega)).grow (.cells #[.int .i64 600, .slice (some ⟨g, 0, none⟩) m cap] 24)
  have HB1 := Lib.hid (HB0.out.trans (hb1.mono HB0.out.size))
  have HMK : Hid (Mk w (w1.alloc (.cells #[.int .i64 600, .slice (some ⟨g, 0, none⟩) m cap] 24)) w1.heap.size 600 g m cap (List.replicate m 255)) := Lib.hid ⟨hfc, hrc, hr1.below hbf, ff_rng _, hg, by omega, by omega, HB1.out.trans (hbf.mono HB1.out.size)⟩
  have HCP := Lib.hid (And.intro hcap hcm)
  clear hr1 hb1 hbf hfc hrc hcap hcm hg hgl
  go_wp2_with fail
  go_loopw [7] (fun iv wr => ∃ (i : Nat) (l : List Int), i ≤ n ∧ i ≤ 12 ∧ iv = .int .i64 (i : Int) ∧ Hid (Mk w wr w1.heap.size 600 g m cap l)) (fun iv _ => n - (intOf iv).toNat)
  case atStart => exact ⟨0, _, Nat.zero_le _, Nat.zero_le _, rfl, HMK⟩
  case round =>
    obtain ⟨i, l, hin, hi12, rfl, HI⟩ := hrel
    clear HMK
    have hF0 := HI.out.f.cell 0
    have hF1 := HI.out.f.cell 1
    have hR0 := HI.out.r.cell 0
    have hR1 := HI.out.r.cell 1
    have hG0 := HI.out.r.free 0
    have hG1 := HI.out.r.free 1
    have hne : ¬ w1.heap.size = w.heap.size := by have := HI.out.hb; omega
    have hne2 : ¬ w.heap.size = w1.heap.size := by have := HI.out.hb; omega
    simp only [List.getElem?_cons_succ, List.getElem?_cons_zero] at hF0 hF1 hR0 hR1
    by_cases hgo : i < n ∧ i < 12
    · obtain ⟨hin2, hi2⟩ := hgo
      have t1 : (i : Int) < (n : Int) := by omega
      have t2 : (i : Int) < 12 := by omega
      obtain ⟨a, rfl, hcz⟩ := (HA.out.below HI.out.below).at_ i hin2
      obtain ⟨z, hz⟩ : ∃ z, zs.getD i 0 = z := ⟨_, rfl⟩
      rw [hz] at hcz
      obtain ⟨P, hP⟩ := Int.eq_ofNat_of_zero_le (Int.emod_nonneg z (b := 65536) (by decide))
      obtain ⟨J, hJ⟩ : ∃ J, P % m = J := ⟨_, rfl⟩
      have hJl : J < m := by rw [← hJ]; exact Nat.mod_lt _ HN0.out
      have hJI : (P : Int) % (m : Int) = (J : Int) := by rw [← hJ]; exact (Int.natCast_emod _ _).symm
      have hJT : Int.tmod (P : Int) (m : Int) = (J : Int) := by rw [Int.tmod_eq_emod_of_nonneg (by omega)]; exact hJI
      have hm0 : ¬ (m : Int) = 0 := by have := HN0.out; omega
      have hJ2 : (J : Int) < (m : Int) := by omega
      obtain ⟨_, _, e5, _, _, _, hcell, hfree⟩ := HI.out.row.slot HN0.out
      cases e5
      have hcJ := hcell J hJl
      have hfJ := hfree J hJl
      obtain ⟨ob, ho⟩ : ∃ ob, l.getD J 0 = ob := ⟨_, rfl⟩
      rw [ho] at hcJ
      have hor : 0 ≤ ob ∧ ob ≤ 255 := by
        rw [← ho]
        obtain ⟨_, _, e6, _, _, hy6⟩ := HI.out.row.bytes HI.out.rng
        cases e6
        exact hy6.byte J hJl
      obtain ⟨vb, hv⟩ : ∃ vb, z / 256 % 256 = vb := ⟨_, rfl⟩
      have hvr : 0 ≤ vb ∧ vb ≤ 255 := by omega
      have hvw : IntKind.u8.wrap (z / 256) = vb := by rw [IntKind.wrap_u8]; exact hv
      have hand := and8 hor hvr
      obtain ⟨r2, hr2⟩ : ∃ r2, andB ob vb = r2 := ⟨_, rfl⟩
      rw [hr2] at hand
      have hrr : 0 ≤ r2 ∧ r2 ≤ 255 := by rw [← hr2]; exact andB_rng hor
      have HP := Lib.hid ((HI.out.put J hJl r2 hrr).drew)
      clear hcell hfree hz hJ ho hv hr2 hor hvr hrr hin hi12 hJl
      go_wp2_with fail
      go_region
      all_goals
        go_wp2
        go_roundw
        case rel => exact ⟨i + 1, _, by omega, by omega, by go_num, HP⟩
        case measure => (simp [intOf]; omega)
    · have hrw := (HI.out.row.far 0 (.int .i64 600) (show w.heap.size < w.heap.size + 2 by omega)).far 1 (.slice (some ⟨g, 0, none⟩) m cap) (show w.heap.size < w.heap.size + 2 by omega)
      obtain ⟨A9, c9, e9, _, _, hy9⟩ := hrw.bytes HI.out.rng
      cases e9
      have HY9 := Lib.hid hy9
      have HB9 := Lib.hid ((HI.out.below.setCell (p := ⟨w.heap.size, 0, none⟩) (Nat.le_refl _) (.int .i64 600)).setCell (p := ⟨w.heap.size, 1, none⟩) (Nat.le_refl _) (.slice (some ⟨g, 0, none⟩) m cap))
      clear hrw hy9
      by_cases hin2 : i < n
      · have t1 : (i : Int) < (n : Int) := by omega
        have t2 : ¬ (i : Int) < 12 := by omega
        clear hgo
        go_wp2
        refine bodyPost_ret (v := .agg #[.int .i64 600, .slice (some ⟨g, 0, none⟩) m cap]) (by simp [results, Try.results16, go_sem, *]) rfl ?_
        have hm := HM.out
        subst hm
        exact ⟨600, k, cap, _, _, rfl, by decide, HK.out.1, HK.out.2, HY9.out, HCP.out.1, HCP.out.2, HB9.out⟩
      · have t1 : ¬ (i : Int) < (n : Int) := by omega
        clear hgo
        go_wp2
        refine bodyPost_ret (v := .agg #[.int .i64 600, .slice (some ⟨g, 0, none⟩) m cap]) (by simp [results, Try.results16, go_sem, *]) rfl ?_
        have hm := HM.out
        subst hm
        exact ⟨600, k, cap, _, _, rfl, by decide, HK.out.1, HK.out.2, HY9.out, HCP.out.1, HCP.out.2, HB9.out⟩
theorem made_any (x : Int) (A : Option Addr) (n c : Nat) (zs : List Int) (w : World) (hA : Nums w A n zs) :
    Calls Try.prog 16 #[.int .i64 x, .slice A n c] w (Made w) := by
  rcases (by omega : x % 65536 % 3 = 0 ∨ x % 65536 % 3 = 1 ∨ x % 65536 % 3 = 2) with h | h | h
  · exact made_512 x A n c zs w hA h
  · exact made_513 x A n c zs w hA h
  · exact made_600 x A n c zs w hA h
/-- what spoil answers: some flash -/
def Spo (w : World) (e : Ending) (w' : World) : Prop := ∃ (P : Int) (A : Option Addr) (n c : Nat) (zs : List Int), e = .returned (.agg #[.int .i64 P, .slice A n c]) ∧ Bytes w' A n zs ∧ n ≤ 3000 ∧ n ≤ c ∧ c ≤ 9223372036854775807 ∧ Below w.heap.size w w'
theorem below2 (w : World) (o1 o2 : Obj) : Below w.heap.size w ((w.alloc o1).alloc o2) := ((Below.refl w.heap.size w).alloc (Nat.le_refl _) o1).alloc (by simp) o2
theorem below3 (w : World) (o1 o2 o3 : Obj) : Below w.heap.size w (((w.alloc o1).alloc o2).alloc o3) := (below2 w o1 o2).alloc (by simp; omega) o3
set_option maxHeartbeats 2000000 in
theorem spoil_p0 (P x : Int) (A : Addr) (n c : Nat) (zs : List Int) (w : World) (hA : Bytes w (some A) n zs) (_ : 0 < n) (hn : n ≤ 3000) (hc : n ≤ c) (hcm : c ≤ 9223372036854775807) (hk : x % 16 = 0) (hj : x / 16 % 256 % 5 = 0) :
    Calls Try.prog 15 #[.agg #[.int .i64 P, .slice (some A) n c], .int .i64 x] w (Spo w) := by
  have hb0 := ((Below.refl w.heap.size w).alloc (Nat.le_refl _) (.cells #[.int .i64 P, .slice (some A) n c] 24)).alloc (by simp) (.cells #[.int .i64 0, .slice none 0 0] 24)
  have hf := (Cs.new w 24 [.int .i64 P, .slice (some A) n c]).grow (.cells #[.int .i64 0, .slice none 0 0] 24)
  have hr := Cs.new2 w (.cells #[.int .i64 P, .slice (some A) n c] 24) 24 [.int .i64 0, .slice none 0 0]
  have hF0 := hf.cell 0
  have hF1 := hf.cell 1
  have hFf0 := hf.free 0
  have hFf1 := hf.free 1
  have hR0 := hr.cell 0
  have hR1 := hr.cell 1
  have hG0 := hr.free 0
  have hG1 := hr.free 1
  have hne : ¬ w.heap.size + 1 = w.heap.size := by omega
  simp only [List.getElem?_cons_succ, List.getElem?_cons_zero] at hF0 hF1 hR0 hR1
  have hX : Bytes w (some A) n zs := hA
  have hQ : n ≤ 3000 ∧ n ≤ c ∧ c ≤ 9223372036854775807 := ⟨hn, hc, hcm⟩
  have HX := Lib.hid hX
  have HB0 := Lib.hid hb0
  have HQ := Lib.hid hQ
  clear hX hb0 hQ hf hr hA hn hc hcm
  go_enter Try.func15, Try.ntmps15
  go_wp2
  refine bodyPost_ret (v := .agg #[.int .i64 0, .slice (some A) n c]) (by simp [results, Try.results15, go_sem, *]) rfl ?_
  exact ⟨_, _, _, _, _, rfl, HX.out.below (below3 _ _ _ _), HQ.out.1, HQ.out.2.1, HQ.out.2.2, below3 _ _ _ _⟩
set_option maxHeartbeats 2000000 in
theorem spoil_p1 (P x : Int) (A : Addr) (n c : Nat) (zs : List Int) (w : World) (hA : Bytes w (some A) n zs) (_ : 0 < n) (hn : n ≤ 3000) (hc : n ≤ c) (hcm : c ≤ 9223372036854775807) (hk : x % 16 = 0) (hj : x / 16 % 256 % 5 = 1) :
    Calls Try.prog 15 #[.agg #[.int .i64 P, .slice (some A) n c], .int .i64 x] w (Spo w) := by
  have hb0 := ((Below.refl w.heap.size w).alloc (Nat.le_refl _) (.cells #[.int .i64 P, .slice (some A) n c] 24)).alloc (by simp) (.cells #[.int .i64 0, .slice none 0 0] 24)
  have hf := (Cs.new w 24 [.int .i64 P, .slice (some A) n c]).grow (.cells #[.int .i64 0, .slice none 0 0] 24)
  have hr := Cs.new2 w (.cells #[.int .i64 P, .slice (some A) n c] 24) 24 [.int .i64 0, .slice none 0 0]
  have hF0 := hf.cell 0
  have hF1 := hf.cell 1
  have hFf0 := hf.free 0
  have hFf1 := hf.free 1
  have hR0 := hr.cell 0
  have hR1 := hr.cell 1
  have hG0 := hr.free 0
  have hG1 := hr.free 1
  have hne : ¬ w.heap.size + 1 = w.heap.size := by omega
  simp only [List.getElem?_cons_succ, List.getElem?_cons_zero] at hF0 hF1 hR0 hR1
  have hX : Bytes w (some A) n zs := hA
  have hQ : n ≤ 3000 ∧ n ≤ c ∧ c ≤ 9223372036854775807 := ⟨hn, hc, hcm⟩
  have HX := Lib.hid hX
  have HB0 := Lib.hid hb0
  have HQ := Lib.hid hQ
  clear hX hb0 hQ hf hr hA hn hc hcm
  go_enter Try.func15, Try.ntmps15
  go_wp2
  refine bodyPost_ret (v := .agg #[.int .i64 511, .slice (some A) n c]) (by simp [results, Try.results15, go_sem, *]) rfl ?_
  exact ⟨_, _, _, _, _, rfl, HX.out.below (below3 _ _ _ _), HQ.out.1, HQ.out.2.1, HQ.out.2.2, below3 _ _ _ _⟩
set_option maxHeartbeats 2000000 in
theorem spoil_p2 (P x : Int) (A : Addr) (n c : Nat) (zs : List Int) (w : World) (hA : Bytes w (some A) n zs) (_ : 0 < n) (hn : n ≤ 3000) (hc : n ≤ c) (hcm : c ≤ 9223372036854775807) (hk : x % 16 = 0) (hj : x / 16 % 256 % 5 = 2) :
    Calls Try.prog 15 #[.agg #[.int .i64 P, .slice (some A) n c], .int .i64 x] w (Spo w) := by
  have hb0 := ((Below.refl w.heap.size w).alloc (Nat.le_refl _) (.cells #[.int .i64 P, .slice (some A) n c] 24)).alloc (by simp) (.cells #[.int .i64 0, .slice none 0 0] 24)
  have hf := (Cs.new w 24 [.int .i64 P, .slice (some A) n c]).grow (.cells #[.int .i64 0, .slice none 0 0] 24)
  have hr := Cs.new2 w (.cells #[.int .i64 P, .slice (some A) n c] 24) 24 [.int .i64 0, .slice none 0 0]
  have hF0 := hf.cell 0
  have hF1 := hf.cell 1
  have hFf0 := hf.free 0
  have hFf1 := hf.free 1
  have hR0 := hr.cell 0
  have hR1 := hr.cell 1
  have hG0 := hr.free 0
  have hG1 := hr.free 1
  have hne : ¬ w.heap.size + 1 = w.heap.size := by omega
  simp only [List.getElem?_cons_succ, List.getElem?_cons_zero] at hF0 hF1 hR0 hR1
  have hX : Bytes w (some A) n zs := hA
  have hQ : n ≤ 3000 ∧ n ≤ c ∧ c ≤ 9223372036854775807 := ⟨hn, hc, hcm⟩
  have HX := Lib.hid hX
  have HB0 := Lib.hid hb0
  have HQ := Lib.hid hQ
  clear hX hb0 hQ hf hr hA hn hc hcm
  go_enter Try.func15, Try.ntmps15
  go_wp2
  refine bodyPost_ret (v := .agg #[.int .i64 512, .slice (some A) n c]) (by simp [results, Try.results15, go_sem, *]) rfl ?_
  exact ⟨_, _, _, _, _, rfl, HX.out.below (below3 _ _ _ _), HQ.out.1, HQ.out.2.1, HQ.out.2.2, below3 _ _ _ _⟩
set_option maxHeartbeats 2000000 in
theorem spoil_p3 (P x : Int) (A : Addr) (n c : Nat) (zs : List Int) (w : World) (hA : Bytes w (some A) n zs) (_ : 0 < n) (hn : n ≤ 3000) (hc : n ≤ c) (hcm : c ≤ 9223372036854775807) (hk : x % 16 = 0) (hj : x / 16 % 256 % 5 = 3) :
    Calls Try.prog 15 #[.agg #[.int .i64 P, .slice (some A) n c], .int .i64 x] w (Spo w) := by
  have hb0 := ((Below.refl w.heap.size w).alloc (Nat.le_refl _) (.cells #[.int .i64 P, .slice (some A) n c] 24)).alloc (by simp) (.cells #[.int .i64 0, .slice none 0 0] 24)
  have hf := (Cs.new w 24 [.int .i64 P, .slice (some A) n c]).grow (.cells #[.int .i64 0, .slice none 0 0] 24)
  have hr := Cs.new2 w (.cells #[.int .i64 P, .slice (some A) n c] 24) 24 [.int .i64 0, .slice none 0 0]
  have hF0 := hf.cell 0
  have hF1 := hf.cell 1
  have hFf0 := hf.free 0
  have hFf1 := hf.free 1
  have hR0 := hr.cell 0
  have hR1 := hr.cell 1
  have hG0 := hr.free 0
  have hG1 := hr.free 1
  have hne : ¬ w.heap.size + 1 = w.heap.size := by omega
  simp only [List.getElem?_cons_succ, List.getElem?_cons_zero] at hF0 hF1 hR0 hR1
  have hX : Bytes w (some A) n zs := hA
  have hQ : n ≤ 3000 ∧ n ≤ c ∧ c ≤ 9223372036854775807 := ⟨hn, hc, hcm⟩
  have HX := Lib.hid hX
  have HB0 := Lib.hid hb0
  have HQ := Lib.hid hQ
  clear hX hb0 hQ hf hr hA hn hc hcm
  go_enter Try.func15, Try.ntmps15
  go_wp2
  refine bodyPost_ret (v := .agg #[.int .i64 8193, .slice (some A) n c]) (by simp [results, Try.results15, go_sem, *]) rfl ?_
  exact ⟨_, _, _, _, _, rfl, HX.out.below (below3 _ _ _ _), HQ.out.1, HQ.out.2.1, HQ.out.2.2, below3 _ _ _ _⟩
set_option maxHeartbeats 2000000 in
theorem spoil_p4 (P x : Int) (A : Addr) (n c : Nat) (zs : List Int) (w : World) (hA : Bytes w (some A) n zs) (_ : 0 < n) (hn : n ≤ 3000) (hc : n ≤ c) (hcm : c ≤ 9223372036854775807) (hk : x % 16 = 0) (hj : x / 16 % 256 % 5 = 4) :
    Calls Try.prog 15 #[.agg #[.int .i64 P, .slice (some A) n c], .int .i64 x] w (Spo w) := by
  have hb0 := ((Below.refl w.heap.size w).alloc (Nat.le_refl _) (.cells #[.int .i64 P, .slice (some A) n c] 24)).alloc (by simp) (.cells #[.int .i64 0, .slice none 0 0] 24)
  have hf := (Cs.new w 24 [.int .i64 P, .slice (some A) n c]).grow (.cells #[.int .i64 0, .slice none 0 0] 24)
  have hr := Cs.new2 w (.cells #[.int .i64 P, .slice (some A) n c] 24) 24 [.int .i64 0, .slice none 0 0]
  have hF0 := hf.cell 0
  have hF1 := hf.cell 1
  have hFf0 := hf.free 0
  have hFf1 := hf.free 1
  have hR0 := hr.cell 0
  have hR1 := hr.cell 1
  have hG0 := hr.free 0
  have hG1 := hr.free 1
  have hne : ¬ w.heap.size + 1 = w.heap.size := by omega
  simp only [List.getElem?_cons_succ, List.getElem?_cons_zero] at hF0 hF1 hR0 hR1
  have hX : Bytes w (some A) n zs := hA
  have hQ : n ≤ 3000 ∧ n ≤ c ∧ c ≤ 9223372036854775807 := ⟨hn, hc, hcm⟩
  have HX := Lib.hid hX
  have HB0 := Lib.hid hb0
  have HQ := Lib.hid hQ
  clear hX hb0 hQ hf hr hA hn hc hcm
  go_enter Try.func15, Try.ntmps15
  go_wp2
  refine bodyPost_ret (v := .agg #[.int .i64 (-1), .slice (some A) n c]) (by simp [results, Try.results15, go_sem, *]) rfl ?_
  exact ⟨_, _, _, _, _, rfl, HX.out.below (below3 _ _ _ _), HQ.out.1, HQ.out.2.1, HQ.out.2.2, below3 _ _ _ _⟩
set_option maxHeartbeats 2000000 in
theorem spoil_1 (P x : Int) (A : Addr) (n c : Nat) (zs : List Int) (w : World) (hA : Bytes w (some A) n zs) (h0 : 0 < n) (hn : n ≤ 3000) (hc : n ≤ c) (hcm : c ≤ 9223372036854775807) (hk : x % 16 = 1) :
    Calls Try.prog 15 #[.agg #[.int .i64 P, .slice (some A) n c], .int .i64 x] w (Spo w) := by
  have hb0 := ((Below.refl w.heap.size w).alloc (Nat.le_refl _) (.cells #[.int .i64 P, .slice (some A) n c] 24)).alloc (by simp) (.cells #[.int .i64 0, .slice none 0 0] 24)
  have hf := (Cs.new w 24 [.int .i64 P, .slice (some A) n c]).grow (.cells #[.int .i64 0, .slice none 0 0] 24)
  have hr := Cs.new2 w (.cells #[.int .i64 P, .slice (some A) n c] 24) 24 [.int .i64 0, .slice none 0 0]
  have hF0 := hf.cell 0
  have hF1 := hf.cell 1
  have hFf0 := hf.free 0
  have hFf1 := hf.free 1
  have hR0 := hr.cell 0
  have hR1 := hr.cell 1
  have hG0 := hr.free 0
  have hG1 := hr.free 1
  have hne : ¬ w.heap.size + 1 = w.heap.size := by omega
  simp only [List.getElem?_cons_succ, List.getElem?_cons_zero] at hF0 hF1 hR0 hR1
  obtain ⟨m, rfl⟩ : ∃ m, n = m + 1 := ⟨n - 1, by omega⟩
  have hmc : (m : Int) ≤ (c : Int) := by omega
  have hm1 : (m : Int) + 1 - 1 = (m : Int) := by omega
  have hX : Bytes w (some A) m (zs.take m) := hA.take m (by omega)
  have hQ : m ≤ 3000 ∧ m ≤ c ∧ c ≤ 9223372036854775807 := ⟨by omega, by omega, hcm⟩
  have hmw := wrap_nat m (by omega)
  have HX := Lib.hid hX
  have HB0 := Lib.hid hb0
  have HQ := Lib.hid hQ
  clear hX hb0 hQ hf hr hA hn h0 hc hcm
  go_enter Try.func15, Try.ntmps15
  go_wp2
  refine bodyPost_ret (v := .agg #[.int .i64 P, .slice (some A) m c]) (by simp [results, Try.results15, go_sem, *]) rfl ?_
  exact ⟨_, _, _, _, _, rfl, HX.out.below (below2 _ _ _), HQ.out.1, HQ.out.2.1, HQ.out.2.2, below2 _ _ _⟩
set_option maxHeartbeats 2000000 in
theorem spoil_2 (P x : Int) (A : Addr) (n c : Nat) (zs : List Int) (w : World) (_ : Bytes w (some A) n zs) (_ : 0 < n) (_ : n ≤ 3000) (_ : n ≤ c) (_ : c ≤ 9223372036854775807) (hk : x % 16 = 2) :
    Calls Try.prog 15 #[.agg #[.int .i64 P, .slice (some A) n c], .int .i64 x] w (Spo w) := by
  have hb0 := ((Below.refl w.heap.size w).alloc (Nat.le_refl _) (.cells #[.int .i64 P, .slice (some A) n c] 24)).alloc (by simp) (.cells #[.int .i64 0, .slice none 0 0] 24)
  have hf := (Cs.new w 24 [.int .i64 P, .slice (some A) n c]).grow (.cells #[.int .i64 0, .slice none 0 0] 24)
  have hr := Cs.new2 w (.cells #[.int .i64 P, .slice (some A) n c] 24) 24 [.int .i64 0, .slice none 0 0]
  have hF0 := hf.cell 0
  have hF1 := hf.cell 1
  have hFf0 := hf.free 0
  have hFf1 := hf.free 1
  have hR0 := hr.cell 0
  have hR1 := hr.cell 1
  have hG0 := hr.free 0
  have hG1 := hr.free 1
  have hne : ¬ w.heap.size + 1 = w.heap.size := by omega
  simp only [List.getElem?_cons_succ, List.getElem?_cons_zero] at hF0 hF1 hR0 hR1
  have hX : Bytes w none 0 [] := ⟨rfl, fun z hz => by (cases hz), fun i hi => absurd hi (by omega)⟩
  have hQ : 0 ≤ 3000 ∧ 0 ≤ 0 ∧ 0 ≤ 9223372036854775807 := ⟨by omega, by omega, by omega⟩
  have HX := Lib.hid hX
  have HB0 := Lib.hid hb0
  have HQ := Lib.hid hQ
  clear hX hb0 hQ hf hr
  go_enter Try.func15, Try.ntmps15
  go_wp2
  refine bodyPost_ret (v := .agg #[.int .i64 P, .slice none 0 0]) (by simp [results, Try.results15, go_sem, *]) rfl ?_
  exact ⟨_, _, _, _, _, rfl, HX.out.below (below2 _ _ _), HQ.out.1, HQ.out.2.1, HQ.out.2.2, below2 _ _ _⟩
set_option maxHeartbeats 2000000 in
theorem spoil_no (P x : Int) (A : Addr) (n c : Nat) (zs : List Int) (w : World) (hA : Bytes w (some A) n zs) (_ : 0 < n) (hn : n ≤ 3000) (hc : n ≤ c) (hcm : c ≤ 9223372036854775807) (h1 : ¬ x % 16 = 0) (h2 : ¬ x % 16 = 1) (h3 : ¬ x % 16 = 2) :
    Calls Try.prog 15 #[.agg #[.int .i64 P, .slice (some A) n c], .int .i64 x] w (Spo w) := by
  have hb0 := ((Below.refl w.heap.size w).alloc (Nat.le_refl _) (.cells #[.int .i64 P, .slice (some A) n c] 24)).alloc (by simp) (.cells #[.int .i64 0, .slice none 0 0] 24)
  have hf := (Cs.new w 24 [.int .i64 P, .slice (some A) n c]).grow (.cells #[.int .i64 0, .slice none 0 0] 24)
  have hr := Cs.new2 w (.cells #[.int .i64 P, .slice (some A) n c] 24) 24 [.int .i64 0, .slice none 0 0]
  have hF0 := hf.cell 0
  have hF1 := hf.cell 1
  have hFf0 := hf.free 0
  have hFf1 := hf.free 1
  have hR0 := hr.cell 0
  have hR1 := hr.cell 1
  have hG0 := hr.free 0
  have hG1 := hr.free 1
  have hne : ¬ w.heap.size + 1 = w.heap.size := by omega
  simp only [List.getElem?_cons_succ, List.getElem?_cons_zero] at hF0 hF1 hR0 hR1
  have hX : Bytes w (some A) n zs := hA
  have hQ : n ≤ 3000 ∧ n ≤ c ∧ c ≤ 9223372036854775807 := ⟨hn, hc, hcm⟩
  have HX := Lib.hid hX
  have HB0 := Lib.hid hb0
  have HQ := Lib.hid hQ
  clear hX hb0 hQ hf hr hA hn hc hcm
  go_enter Try.func15, Try.ntmps15
  go_wp2
  refine bodyPost_ret (v := .agg #[.int .i64 P, .slice (some A) n c]) (by simp [results, Try.results15, go_sem, *]) rfl ?_
  exact ⟨_, _, _, _, _, rfl, HX.out.below (below2 _ _ _), HQ.out.1, HQ.out.2.1, HQ.out.2.2, below2 _ _ _⟩
theorem spoil_any (P x : Int) (A : Option Addr) (n c : Nat) (zs : List Int) (w : World) (hA : Bytes w A n zs) (h0 : 0 < n) (hn : n ≤ 3000) (hc : n ≤ c) (hcm : c ≤ 9223372036854775807) :
    Calls Try.prog 15 #[.agg #[.int .i64 P, .slice A n c], .int .i64 x] w (Spo w) := by
  obtain ⟨A, rfl, _⟩ := hA.at_ 0 h0
  by_cases h1 : x % 16 = 0
  · rcases (by omega : x / 16 % 256 % 5 = 0 ∨ x / 16 % 256 % 5 = 1 ∨ x / 16 % 256 % 5 = 2 ∨ x / 16 % 256 % 5 = 3 ∨ x / 16 % 256 % 5 = 4) with h | h | h | h | h
    · exact spoil_p0 P x A n c zs w hA h0 hn hc hcm h1 h
    · exact spoil_p1 P x A n c zs w hA h0 hn hc hcm h1 h
    · exact spoil_p2 P x A n c zs w hA h0 hn hc hcm h1 h
    · exact spoil_p3 P x A n c zs w hA h0 hn hc hcm h1 h
    · exact spoil_p4 P x A n c zs w hA h0 hn hc hcm h1 h
  · by_cases h2 : x % 16 = 1
    · exact spoil_1 P x A n c zs w hA h0 hn hc hcm h2
    · by_cases h3 : x % 16 = 2
      · exact spoil_2 P x A n c zs w hA h0 hn hc hcm h3
      · exact spoil_no P x A n c zs w hA h0 hn hc hcm h1 h2 h3
end Go.Proofs.Ytgoajnljgbcmdaa
