/- Layer 6: the law SealOpens. -/
import Derived.Test.YtgfcbgnlkiebhaaSeJ
namespace Go.Proofs.Ytgfcbgnlkiebhaa
open Go.RowKit
set_option maxRecDepth 100000

theorem bits_low6 (x : Int) : ∃ P : Nat, P < 65536 ∧ bits .and .i64 x 65535 = (P : Int) := by
  obtain ⟨a, ha⟩ := Int.eq_ofNat_of_zero_le (Int.emod_nonneg x (b := 18446744073709551616) (by decide))
  have hx : BitVec.ofInt 64 x = BitVec.ofNat 64 a := by
    apply BitVec.eq_of_toNat_eq
    rw [BitVec.toNat_ofInt, BitVec.toNat_ofNat]
    have h2 : x % ((2 ^ 64 : Nat) : Int) = (a : Int) := ha
    rw [h2]
    have : a < 2 ^ 64 := by omega
    rw [Nat.mod_eq_of_lt this]
    simp
  refine ⟨a % 65536, by omega, ?_⟩
  show IntKind.i64.wrap ((BitVec.ofInt 64 x &&& BitVec.ofInt 64 65535).toNat : Int) = _
  have ha64 : a % 2 ^ 64 = a := Nat.mod_eq_of_lt (by omega)
  have e : a &&& 65535 = a % 65536 := Nat.and_two_pow_sub_one_eq_mod a 16
  rw [hx, BitVec.toNat_and, BitVec.toNat_ofNat, ha64, show (BitVec.ofInt 64 65535).toNat = 65535 from rfl, e, IntKind.wrap_i64]
  omega
/-- append(b, u...) onto a row behind a guard that holds -/
theorem app_rowG {ops : Array Oper} {rest : List Oper} {o : Oper} {a : Act} {Q : Exit → Act → World → Prop} {w : World} (hw : Region.wanted o (yielded ops a.tmps) = true) (s x : Operand)
    (ho : o.op = .call { callee := .builtin .append, args := #[s, x], argTypes := #[23, 23] })
    (base : Nat) (v : Value) (n : Nat) (xs : List Int) (A : Option Addr) (m cap : Nat) (zs : List Int) (hown : Row w base v n xs) (hs : a.eval s = v)
    (hB : Bytes w A m zs) (hx : a.eval x = .slice A m cap) (hn : n + m ≤ 100000000000000) (hb : base ≤ w.heap.size)
    (h : ∀ v' w', Row w' base v' (n + m) (xs ++ zs) → Below base w w' → wpList Try.prog ops Q rest (a.put o.dst v') w') :
    wpList Try.prog ops Q (o :: rest) a w := by
  refine wpList_step fun K hK => ?_
  rw [if_pos hw]
  rcases A with _ | ad
  · have hm : m = 0 := by
      rcases Nat.eq_zero_or_pos m with h0 | h0
      · exact h0
      · obtain ⟨_, e, _⟩ := hB.at_ 0 h0
        cases e
    subst hm
    have hz : zs = [] := List.eq_nil_of_length_eq_zero hB.len
    subst hz
    have hr := run_append_row_none (ty := o.type) (c := cap) hown
    unfold Oper.wp execOp
    simp only [ho, resolve, invoke, builtin, Sem.run_bind, Sem.run_pure, Result.andThen_ok, List.map_toArray, List.map_cons, List.map_nil, hs, hx, hr]
    exact hK _ _ (h v w (by simpa using hown) (Below.refl _ _))
  · obtain ⟨v', w', hr, h2, h3⟩ := run_append_row (ty := o.type) (cap := cap) hown hB hn hb
    unfold Oper.wp execOp
    simp only [ho, resolve, invoke, builtin, Sem.run_bind, Sem.run_pure, Result.andThen_ok, List.map_toArray, List.map_cons, List.map_nil, hs, hx, hr]
    exact hK _ _ (h v' w' h2 h3)
set_option maxHeartbeats 1000000 in
theorem opens_long0 (x y : BitVec 64) (at_ bz : Int) (A B C : Option Addr) (n c m d k f : Nat) (w : World)  (hn : 300 < n) :
    Calls Try.prog 5 #[.int .u64 (val x), .slice A n c, .slice B m d, .int .u64 (val y), .slice C k f, .int .i64 at_, .int .u8 bz] w fun e w' => e = .returned (.bool true) ∧ Below w.heap.size w w' := by
  have HB0 := Lib.hid ((Below.refl w.heap.size w).alloc (Nat.le_refl _) (.cells #[.slice A n c, .slice B m d, .slice C k f] 23))
  go_enter Try.func5, Try.ntmps5
  go_wp2_with fail
  refine (short3_no0 A B C n c m d k f w hn).mono ?_
  rintro e w' ⟨rfl, rfl⟩
  go_wp2_with fail
  refine (awake6_any _).mono ?_
  rintro e w1 ⟨rfl, hb⟩
  have HB1 := Lib.hid (HB0.out.trans (hb.mono HB0.out.size))
  clear hb
  go_wp2
  go_ret
  exact ⟨rfl, HB1.out⟩
set_option maxHeartbeats 1000000 in
theorem opens_long1 (x y : BitVec 64) (at_ bz : Int) (A B C : Option Addr) (n c m d k f : Nat) (w : World) (hn : n ≤ 300) (hm : 300 < m) :
    Calls Try.prog 5 #[.int .u64 (val x), .slice A n c, .slice B m d, .int .u64 (val y), .slice C k f, .int .i64 at_, .int .u8 bz] w fun e w' => e = .returned (.bool true) ∧ Below w.heap.size w w' := by
  have HB0 := Lib.hid ((Below.refl w.heap.size w).alloc (Nat.le_refl _) (.cells #[.slice A n c, .slice B m d, .slice C k f] 23))
  go_enter Try.func5, Try.ntmps5
  go_wp2_with fail
  refine (short3_no1 A B C n c m d k f w hn hm).mono ?_
  rintro e w' ⟨rfl, rfl⟩
  go_wp2_with fail
  refine (awake6_any _).mono ?_
  rintro e w1 ⟨rfl, hb⟩
  have HB1 := Lib.hid (HB0.out.trans (hb.mono HB0.out.size))
  clear hb
  go_wp2
  go_ret
  exact ⟨rfl, HB1.out⟩
set_option maxHeartbeats 1000000 in
theorem opens_long2 (x y : BitVec 64) (at_ bz : Int) (A B C : Option Addr) (n c m d k f : Nat) (w : World) (hn : n ≤ 300) (hm : m ≤ 300) (hk : 300 < k) :
    Calls Try.prog 5 #[.int .u64 (val x), .slice A n c, .slice B m d, .int .u64 (val y), .slice C k f, .int .i64 at_, .int .u8 bz] w fun e w' => e = .returned (.bool true) ∧ Below w.heap.size w w' := by
  have HB0 := Lib.hid ((Below.refl w.heap.size w).alloc (Nat.le_refl _) (.cells #[.slice A n c, .slice B m d, .slice C k f] 23))
  go_enter Try.func5, Try.ntmps5
  go_wp2_with fail
  refine (short3_no2 A B C n c m d k f w hn hm hk).mono ?_
  rintro e w' ⟨rfl, rfl⟩
  go_wp2_with fail
  refine (awake6_any _).mono ?_
  rintro e w1 ⟨rfl, hb⟩
  have HB1 := Lib.hid (HB0.out.trans (hb.mono HB0.out.size))
  clear hb
  go_wp2
  go_ret
  exact ⟨rfl, HB1.out⟩
set_option maxHeartbeats 8000000 in
theorem opens_small (x y : BitVec 64) (at_ bz : Int) (A B C : Option Addr) (n c m d k f : Nat) (bs zs ts : List Int) (w : World) (hz : 0 ≤ bz ∧ bz ≤ 255) (hA : Bytes w A n bs) (hB : Bytes w B m zs) (hC : Bytes w C k ts) (hc : n ≤ c) (hcm : c ≤ 9223372036854775807) (hd : m ≤ d) (hdm : d ≤ 9223372036854775807) (hn : n ≤ 300) (hm : m ≤ 300) (hk : k ≤ 300) :
    Calls Try.prog 5 #[.int .u64 (val x), .slice A n c, .slice B m d, .int .u64 (val y), .slice C k f, .int .i64 at_, .int .u8 bz] w fun e w' => e = .returned (.bool true) ∧ Below w.heap.size w w' := by
  have HB0 := Lib.hid ((Below.refl w.heap.size w).alloc (Nat.le_refl _) (.cells #[.slice A n c, .slice B m d, .slice C k f] 23))
  have HA := Lib.hid hA
  have HB := Lib.hid hB
  have hl1 := hA.len
  have hl2 := hC.len
  have hbox := box_len x y bs ts
  rw [hl2] at hbox
  have hrng : Hid (∀ z ∈ boxB x y bs ts, 0 ≤ z ∧ z ≤ 255) := Lib.hid (box_rng hC.rng)
  have c1 := fun w' (h : Below w.heap.size w w') => sealR_all x y A C n c k f bs ts w' (hA.below h) (hC.below h)
  rw [(seal_small (x := x) (y := y) (bs := bs) (ts := ts) (by omega) (by omega)).1, (seal_small (x := x) (y := y) (bs := bs) (ts := ts) (by omega) (by omega)).2] at c1
  generalize boxB x y bs ts = Z at *
  obtain ⟨P, hP, hand⟩ := bits_low6 at_
  have hx1 : IntKind.u64.wrap (val x + 1) = val (x + 1#64) := val_add x 1#64
  generalize x + 1#64 = x1 at *
  have C1 := Lib.hid c1
  have HL := Lib.hid hbox
  have HBR : Hid (∀ z ∈ [bz] ++ bs, 0 ≤ z ∧ z ≤ 255) := Lib.hid (by
    intro z hz'
    rcases List.mem_append.1 hz' with h | h
    · rw [List.mem_singleton.1 h]; exact hz
    · exact hA.rng z h)
  have HCC := Lib.hid (And.intro hc (And.intro hcm (And.intro hd hdm)))
  clear c1 hA hB hC hl1 hl2 hbox hc hcm hd hdm
  go_enter Try.func5, Try.ntmps5
  go_wp2_with fail
  refine (short3_yes A B C n c m d k f w hn hm hk).mono ?_
  rintro e w' ⟨rfl, rfl⟩
  go_wp2_with fail
  refine (C1.out _ HB0.out).mono ?_
  rintro e w1 ⟨A1, n1, k1, rfl, hy, hk1, hm1, hb⟩
  have HY1 := Lib.hid hy
  have HG1 := Lib.hid hb
  have HB1 := Lib.hid (HB0.out.trans (hb.mono HB0.out.size))
  clear hy hb
  have hn1 : n1 = k + 16 := by rw [← HY1.out.len]; exact HL.out
  have hn1p : 16 ≤ n1 := by omega
  have hn1q : n1 ≤ 316 := by omega
  clear hn1 hk
  obtain ⟨a1, rfl, _⟩ := HY1.out.at_ 0 (by omega)
  go_wp2_with (at_builtin; refine app_row rfl _ _ rfl w1.heap.size (.slice none 0 0) 0 [] (some a1) n1 k1 Z (Row.nil _ _) rfl HY1.out rfl (by omega) (Nat.le_refl _) ?_)
  intro v2 w2 hr2 hb2
  try simp only [Nat.zero_add, List.nil_append] at hr2
  obtain ⟨g, cap, rfl, hg, hcap, hcapm, hcell, hfree⟩ := hr2.slot (by omega)
  obtain ⟨J, hJ⟩ : ∃ J, P % n1 = J := ⟨_, rfl⟩
  have hJl : J < n1 := by rw [← hJ]; exact Nat.mod_lt _ (by omega)
  have hJI : (P : Int) % (n1 : Int) = (J : Int) := by rw [← hJ]; exact (Int.natCast_emod _ _).symm
  have hJT : Int.tmod (P : Int) (n1 : Int) = (J : Int) := by rw [Int.tmod_eq_emod_of_nonneg (by omega)]; exact hJI
  have hcJ := hcell J hJl
  have hfJ := hfree J hJl
  have hzJ : 0 ≤ Z.getD J 0 ∧ Z.getD J 0 ≤ 255 := HY1.out.byte J hJl
  obtain ⟨zj, hzj⟩ : ∃ zj, Z.getD J 0 = zj := ⟨_, rfl⟩
  rw [hzj] at hcJ hzJ
  have hxor := xor8 hzJ hz
  obtain ⟨zx, hzx⟩ : ∃ zx, xorB zj bz = zx := ⟨_, rfl⟩
  rw [hzx] at hxor
  have hzxr : 0 ≤ zx ∧ zx ≤ 255 := by rw [← hzx]; exact xorB_rng hzJ hz
  have hr3 := hr2.put J hJl zx
  have hb3 : Below w1.heap.size w1 (w2.setCell ⟨g, J, none⟩ (.int .u8 zx)) := hb2.setCell (p := ⟨g, J, none⟩) hg _
  have hg0 : ¬ (n1 : Int) = 0 := by omega
  have hJ2 : (J : Int) < (n1 : Int) := by omega
  have hJn : ¬ (J : Int) < 0 := by omega
  have hJk : (J : Int) ≤ (k1 : Int) := by omega
  have HJ := Lib.hid hJl
  have hDr : ∀ z ∈ Z.set J zx, 0 ≤ z ∧ z ≤ 255 := by
    intro z hz'
    rcases List.mem_or_eq_of_mem_set hz' with h | h
    · exact hrng.out z h
    · rw [h]; exact hzxr
  obtain ⟨A3, cap3, e3, hq1, hq2, hy3⟩ := hr3.bytes hDr
  cases e3
  generalize Z.set J zx = D at *
  have HR3 := Lib.hid hb3
  have HY3 := Lib.hid hy3
  have HQ := Lib.hid (And.intro hq1 hq2)
  clear hr2 hr3 hcell hfree hJ hzj hzx hzJ hcap hcapm hg hb3 hy3 hq1 hq2 hb2 hDr hzxr hz
  go_wp2_with fail
  generalize w2.setCell ⟨g, J, none⟩ (.int .u8 zx) = w3 at *
  have HA3 := Lib.hid (HA.out.below (HB1.out.trans (HR3.out.mono HB1.out.size)))
  have HB3 := Lib.hid (HB.out.below (HB1.out.trans (HR3.out.mono HB1.out.size)))
  have HC3 := Lib.hid (HY1.out.below HR3.out)
  have HG3 := Lib.hid (Below.refl w3.heap.size w3)
  clear hcJ hfJ
  refine (opens_any x A B n c m d bs zs _ HA3.out HB3.out HCC.out.1 HCC.out.2.1 HCC.out.2.2.1 HCC.out.2.2.2).mono ?_
  rintro e w4 ⟨rfl, hb⟩
  have HG4 := Lib.hid hb
  clear hb
  go_wp2_with fail
  refine (opens_any x A _ n c n1 cap bs D _ (HA3.out.below HG4.out) (HY3.out.below HG4.out) HCC.out.1 HCC.out.2.1 HQ.out.1 HQ.out.2).mono ?_
  rintro e w5 ⟨rfl, hb⟩
  have HG5 := Lib.hid (HG4.out.trans (hb.mono HG4.out.size))
  clear hb
  go_wp2_with fail
  refine (opens_any x A (some a1) n c J k1 bs (Z.take J) _ (HA3.out.below HG5.out) ((HC3.out.below HG5.out).take J (Nat.le_of_lt HJ.out)) HCC.out.1 HCC.out.2.1 (Nat.le_trans (Nat.le_of_lt HJ.out) hk1) hm1).mono ?_
  rintro e w6 ⟨rfl, hb⟩
  have HG6 := Lib.hid (HG5.out.trans (hb.mono HG5.out.size))
  clear hb
  go_wp2_with fail
  refine (opens_any x1 A (some a1) n c n1 k1 bs Z _ (HA3.out.below HG6.out) (HC3.out.below HG6.out) HCC.out.1 HCC.out.2.1 hk1 hm1).mono ?_
  rintro e w7 ⟨rfl, hb⟩
  have HG7 := Lib.hid (HG6.out.trans (hb.mono HG6.out.size))
  clear hb
  have HA7 := Lib.hid (HA3.out.below HG7.out)
  have HA7a := Lib.hid (HA7.out.below ((Below.refl w7.heap.size w7).alloc (Nat.le_refl _) (.cells #[.int .u8 bz] 5)))
  have hrow := row_lit w7 bz (Nat.le_refl _)
  have HROW := Lib.hid hrow
  clear hrow
  go_wp2_with (at_builtin; refine app_rowG (by rfl) _ _ rfl w7.heap.size _ 1 [bz] A n c bs HROW.out rfl HA7a.out rfl (by omega) (by simp) ?_)
  intro v8 w8 hr8 hb8
  obtain ⟨A8, k8, rfl, hk8, hm8, hy8⟩ := hr8.bytes HBR.out
  have HY8 := Lib.hid hy8
  have HG8 := Lib.hid (HG7.out.trans ((((Below.refl w7.heap.size w7).alloc (Nat.le_refl _) (.cells #[.int .u8 bz] 5)).trans hb8).mono HG7.out.size))
  clear hr8 hb8 hy8
  go_wp2_with fail
  refine (opens_any x A8 (some a1) (1 + n) k8 n1 k1 ([bz] ++ bs) Z _ HY8.out (HC3.out.below HG8.out) hk8 hm8 hk1 hm1).mono ?_
  rintro e w9 ⟨rfl, hb⟩
  have HG9 := Lib.hid (HG8.out.trans (hb.mono HG8.out.size))
  clear hb
  go_wp2_with fail
  refine (awake6_any _).mono ?_
  rintro e w10 ⟨rfl, hb⟩
  have HG10 := Lib.hid (HG9.out.trans (hb.mono HG9.out.size))
  have HBE := Lib.hid (HB1.out.trans ((HR3.out.trans (HG10.out.mono HR3.out.size)).mono HB1.out.size))
  clear hb
  go_wp2
  go_ret
  exact ⟨rfl, HBE.out⟩
theorem opens_law (x y : BitVec 64) (at_ bz : Int) (A B C : Option Addr) (n c m d k f : Nat) (bs zs ts : List Int) (w : World) (hz : 0 ≤ bz ∧ bz ≤ 255) (hA : Bytes w A n bs) (hB : Bytes w B m zs) (hC : Bytes w C k ts) (hc : n ≤ c) (hcm : c ≤ 9223372036854775807) (hd : m ≤ d) (hdm : d ≤ 9223372036854775807) :
    Calls Try.prog 5 #[.int .u64 (val x), .slice A n c, .slice B m d, .int .u64 (val y), .slice C k f, .int .i64 at_, .int .u8 bz] w fun e w' => e = .returned (.bool true) ∧ Below w.heap.size w w' := by
  by_cases hn : n ≤ 300
  · by_cases hm : m ≤ 300
    · by_cases hk : k ≤ 300
      · exact opens_small x y at_ bz A B C n c m d k f bs zs ts w hz hA hB hC hc hcm hd hdm hn hm hk
      · exact opens_long2 x y at_ bz A B C n c m d k f w hn hm (by omega)
    · exact opens_long1 x y at_ bz A B C n c m d k f w hn (by omega)
  · exact opens_long0 x y at_ bz A B C n c m d k f w (by omega)
end Go.Proofs.Ytgfcbgnlkiebhaa
