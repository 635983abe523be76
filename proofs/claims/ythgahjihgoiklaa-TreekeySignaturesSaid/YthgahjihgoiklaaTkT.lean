/- Words read from bytes, of both; keys as bytes. -/
import Derived.Test.YthgahjihgoiklaaTkR
namespace Go.Proofs.Ythgahjihgoiklaa
open Go.RowKit
set_option maxRecDepth 100000

/-- the word of which the bytes are read so far -/
def rdF (zs : List Int) : Nat → BitVec 64
  | 0 => 0#64
  | k + 1 => (rdF zs k <<< 8) ||| BitVec.ofInt 64 (zs.getD k 0)
theorem rd_step (x : BitVec 64) (z : Int) (h0 : 0 ≤ z) (h1 : z ≤ 255) : bits .or .u64 (IntKind.u64.wrap (val x * 256)) z = val (x <<< 8 ||| BitVec.ofInt 64 z) := by
  have e : z = val (BitVec.ofInt 64 z) := val_of h0 (by omega)
  have e2 : (256 : Int) = 2 ^ 8 := by decide
  generalize BitVec.ofInt 64 z = y at *
  rw [e, e2, val_shl, val_or]
theorem word_any (A : Option Addr) (n c : Nat) (zs : List Int) (w : World) (hb : Bytes w A n zs) (hn : n ≤ 1000000) :
    Calls Try.prog 40 #[.slice A n c] w fun e w' => e = .returned (.int .u64 (val (rdF zs n))) ∧ w = w' := by
  go_enter Try.func40, Try.ntmps40
  go_wp2
  go_loop [3, 8] (fun x i => ∃ k : Nat, k ≤ n ∧ i = .int .i64 k ∧ x = .int .u64 (val (rdF zs k))) (fun _ i => n - (intOf i).toNat)
  case atStart => exact ⟨0, Nat.zero_le _, rfl, rfl⟩
  case round =>
    obtain ⟨k, hk, rfl, rfl⟩ := hrel
    by_cases hlt : k < n
    · obtain ⟨a, rfl, hcell⟩ := hb.at_ k hlt
      obtain ⟨z0, z1⟩ := hb.byte k hlt
      generalize hz : zs.getD k 0 = z at *
      have Hz := Lib.hid hz
      clear hz
      go_wp2
      go_round
      case rel => exact ⟨k + 1, by omega, by go_num, by rw [rd_step _ _ z0 z1, ← Hz.out]; rfl⟩
      case measure => simp [intOf]; omega
    · have hkn : k = n := by omega
      subst hkn
      go_wp2
      go_ret
      exact ⟨rfl, rfl⟩
theorem wordR_any (A : Option Addr) (n c : Nat) (zs : List Int) (w : World) (hb : Bytes w A n zs) (hn : n = 8) :
    Calls Try.prog 41 #[.slice A n c] w fun e w' => e = .returned (.int .u64 (val (rdF zs n))) ∧ w = w' := by
  subst hn
  go_enter Try.func41, Try.ntmps41
  go_wp2
  go_loop [3, 4] (fun x i => ∃ k : Nat, k ≤ 8 ∧ i = .int .i64 k ∧ x = .int .u64 (val (rdF zs k))) (fun _ i => 8 - (intOf i).toNat)
  case atStart => exact ⟨0, Nat.zero_le _, rfl, rfl⟩
  case round =>
    obtain ⟨k, hk, rfl, rfl⟩ := hrel
    by_cases hlt : k < 8
    · obtain ⟨a, rfl, hcell⟩ := hb.at_ k hlt
      obtain ⟨z0, z1⟩ := hb.byte k hlt
      generalize hz : zs.getD k 0 = z at *
      have Hz := Lib.hid hz
      clear hz
      go_wp2
      go_round
      case rel => exact ⟨k + 1, by omega, by go_num, by rw [rd_step _ _ z0 z1, ← Hz.out]; rfl⟩
      case measure => simp [intOf]; omega
    · have hkn : k = 8 := by omega
      subst hkn
      go_wp2
      go_ret
      exact ⟨rfl, rfl⟩
theorem ws_one_at {n : Nat} (w : World) (x : BitVec 64) (hn : w.heap.size = n) : Ws (w.alloc (.cells #[.int .u64 (val x)] 22)) (some ⟨n, 0, none⟩) 1 [x] := by rw [← hn]; exact Ws.one w x
theorem WsD {w : World} {A : Option Addr} {n : Nat} {ws : List (BitVec 64)} (h : Ws w A n ws) : Ws w.drew A n ws := ⟨h.len, h.at_⟩
theorem RowD {w : World} {base n : Nat} {v : Value} {zs : List Int} (h : Row w base v n zs) : Row w.drew base v n zs := h
theorem row_one {base : Nat} (w : World) (h : Int) (hb : base ≤ w.heap.size) : Row (w.alloc (.cells #[.int .u8 h] 5)) base (.slice (some ⟨w.heap.size, 0, none⟩) 1 1) 1 [h] := by
  have hc := Cs.new w 5 [.int .u8 h]
  refine ⟨rfl, .inr ⟨w.heap.size, 1, rfl, hb, by simp, Nat.le_refl _, by unfold maxLen; omega, fun j hj => ?_, fun j hj => ⟨?_, hc.free j⟩⟩⟩
  · obtain rfl : j = 0 := by omega
    exact hc.cell 0
  · obtain rfl : j = 0 := by omega
    exact (congrArg Option.isSome (hc.cell 0)).trans rfl
theorem row_one_at {base n : Nat} (w : World) (h : Int) (hb : base ≤ w.heap.size) (hn : w.heap.size = n) : Row (w.alloc (.cells #[.int .u8 h] 5)) base (.slice (some ⟨n, 0, none⟩) 1 1) 1 [h] := by rw [← hn]; exact row_one w h hb
theorem step_row {ops : Array Oper} {o : Oper} {a : Act} {W : World} {K : Act → World → Prop} {Q : Exit → Act → World → Prop} {E : Prop} (hgd : o.guard = none) (s x : Operand)
    (ho : o.op = .call { callee := .builtin .append, args := #[s, x], argTypes := #[43, 43] })
    (base : Nat) (v : Value) (n : Nat) (xs : List Int) (A : Addr) (m cap : Nat) (zs : List Int) (hown : Row W base v n xs) (hs : a.eval s = v)
    (hB : Bytes W (some A) m zs) (hx : a.eval x = .slice (some A) m cap) (hn : n + m ≤ 100000000000000) (hb : base ≤ W.heap.size)
    (h : ∀ v' w', Row w' base v' (n + m) (xs ++ zs) → Below base W w' → K (a.put o.dst v') w') :
    if Region.wanted o (yielded ops a.tmps) = true then Oper.wp Try.prog o a W K Q else E := by
  have hw : Region.wanted o (yielded ops a.tmps) = true := by simp [Region.wanted, hgd]
  rw [if_pos hw]
  obtain ⟨v', w', hr, h2, h3⟩ := run_append_row (ty := o.type) (cap := cap) hown hB hn hb
  unfold Oper.wp execOp
  simp only [ho, resolve, invoke, builtin, Sem.run_bind, Sem.run_pure, Result.andThen_ok, List.map_toArray, List.map_cons, List.map_nil, hs, hx, hr]
  exact h v' w' h2 h3
theorem one_cs {P : Program} {code : Code} {Q : Exit → Act → World → Prop} {a : Act} {w : World} (t1 : TypeId) (v1 : List Value)
    (h : ∀ W, Cs W w.heap.size t1 v1 → Below w.heap.size w W → Code.wp P code Q a W) :
    Code.wp P code Q a (w.alloc (.cells v1.toArray t1)) := h _ (Cs.new w t1 v1) ((Below.refl _ w).alloc (Nat.le_refl _) _)
set_option maxHeartbeats 2000000 in
theorem encK_ok (h : Int) (r : BitVec 64) (w : World) (hh : hgtB h = true) :
    Calls Try.prog 19 #[.agg #[.int .i64 h, .int .u64 (val r)]] w fun e w' => ∃ A c, e = .returned (.tuple #[.slice A 9 c, .int .i64 0]) ∧ Bytes w' A 9 (h :: wsBytes [r]) ∧ Below w.heap.size w w' := by
  have h04 : 0 ≤ h ∧ h ≤ 4 := by rcases hgt_cases hh with e | e | e | e | e <;> omega
  have h0 := h04.1
  have h1 := h04.2
  have h8 : IntKind.u8.wrap h = h := by rw [IntKind.wrap_u8]; omega
  have HH := Lib.hid hh
  clear hh h04
  go_enter Try.func19, Try.ntmps19
  go_wp2_with fail
  refine (hgt_any _ _).mono ?_
  rintro e w' ⟨rfl, rfl⟩
  rw [HH.out]
  go_wp2_with fail
  refine one_cs _ [.int .i64 h, .int .u64 (val r)] ?_
  intro W0 hk hbw
  have HK := Lib.hid hk
  have hlk := hk.lt
  have HBw := Lib.hid hbw
  have hswB := hbw.size
  clear hk hbw
  refine wp_region_held (S := fun W => Below W0.heap.size W0 W) (by kernel_rfl) ?_
  refine heldS_take (i := 0) (v := ?_) rfl rfl (by kernel_rfl) (by kernel_rfl) (by kernel_rfl) (fun _ _ _ h => h) (by rfl) ((Below.refl _ W0).drew) ?_ ?_
  rotate_left
  · intro W hW
    go_simp
    try with_reducible rfl
  simp only [Act.put, List.setIfInBounds_toArray, List.set_cons_zero, List.set_cons_succ]
  refine heldS_take (i := 1) (v := ?_) rfl rfl (by kernel_rfl) (by kernel_rfl) (by kernel_rfl) (fun _ _ _ h => h) (by rfl) ((Below.refl _ W0).drew) ?_ ?_
  rotate_left
  · intro W hW
    have e0 := (HK.out.below hW hlk).cell 0
    have e1 := (HK.out.below hW hlk).cell 1
    simp only [List.getElem?_cons_succ, List.getElem?_cons_zero] at e0 e1
    go_simp
    try with_reducible rfl
  simp only [Act.put, List.setIfInBounds_toArray, List.set_cons_zero, List.set_cons_succ]
  refine heldS_take (i := 2) (v := ?_) rfl rfl (by kernel_rfl) (by kernel_rfl) (by kernel_rfl) (fun _ _ _ h => h) (by rfl) ((Below.refl _ W0).drew) ?_ ?_
  rotate_left
  · intro W hW
    go_simp
    try with_reducible rfl
  simp only [Act.put, List.setIfInBounds_toArray, List.set_cons_zero, List.set_cons_succ]
  refine heldS_take (i := 4) (v := ?_) rfl rfl (by kernel_rfl) (by kernel_rfl) (by kernel_rfl) (fun _ _ _ h => h) (by rfl) ((Below.refl _ W0).drew) ?_ ?_
  rotate_left
  · intro W hW
    go_simp
    try with_reducible rfl
  simp only [Act.put, List.setIfInBounds_toArray, List.set_cons_zero, List.set_cons_succ]
  refine heldS_take (i := 5) (v := ?_) rfl rfl (by kernel_rfl) (by kernel_rfl) (by kernel_rfl) (fun _ _ _ h => h) (by rfl) ((Below.refl _ W0).drew) ?_ ?_
  rotate_left
  · intro W hW
    have e0 := (HK.out.below hW hlk).cell 0
    have e1 := (HK.out.below hW hlk).cell 1
    simp only [List.getElem?_cons_succ, List.getElem?_cons_zero] at e0 e1
    go_simp
    try with_reducible rfl
  simp only [Act.put, List.setIfInBounds_toArray, List.set_cons_zero, List.set_cons_succ]
  refine heldS_two (i := 3) (j := 6) (by kernel_rfl) rfl rfl (fun K' hK => ?_) (fun K' hK => ?_)
  · go_simp
    refine hK.out _ _ (((Below.refl _ W0).alloc (Nat.le_refl _) _).drew) ?_
    clear hK K'
    refine heldS_call (i := 6) (by kernel_rfl) rfl (fun K' hK => ?_)
    go_simp
    refine hK.out _ _ ((((Below.refl _ W0).alloc (Nat.le_refl _) _).alloc (by simp) _).drew) ?_
    clear hK K'
    refine heldS_call (i := 7) (by kernel_rfl) rfl (fun K' hK => ?_)
    go_simp
    refine (words_any _ 1 1 [r] _ (WsD (ws_one_at (n := W0.heap.size + 1) (W0.alloc (.cells #[.int .u8 h] 5)) r (by simp))) (by omega)).mono ?_
    rintro e w2 ⟨v2, rfl, ho, hb⟩
    have hS : Below W0.heap.size W0 w2 := (((Below.refl _ W0).alloc (Nat.le_refl _) _).alloc (by simp) _).drew.trans (hb.mono (by first | (simp; omega) | simp))
    refine hK.out _ _ hS ?_
    clear hK K'
    obtain ⟨A2, k2, rfl, _, _, hby⟩ := own_bytes ho (wsBytes_rng _)
    have hlb := hby.len
    have hrow : Row w2 W0.heap.size (.slice (some ⟨W0.heap.size, 0, none⟩) 1 1) 1 [h] := (RowD ((row_one W0 h (Nat.le_refl _)).alloc _)).below (hb.mono (by first | (simp; omega) | simp))
    obtain ⟨a2, rfl, _⟩ := hby.at_ 0 (by decide)
    have HY := Lib.hid hby
    have HRW := Lib.hid hrow
    have HS2 := Lib.hid hS
    have hsz := hS.size
    clear hby hrow hS
    refine heldS_call (i := 8) (by kernel_rfl) rfl (fun K' hK => ?_)
    refine step_row rfl _ _ rfl W0.heap.size _ 1 [h] a2 8 k2 (wsBytes [r]) HRW.out rfl HY.out rfl (by omega) hsz ?_
    intro v3 w3 hr3 hb3
    obtain ⟨A3, k3, rfl, _, _, hy3⟩ := hr3.bytes (by
      intro z hz
      simp only [List.cons_append, List.nil_append, List.mem_cons] at hz
      rcases hz with rfl | hz
      · omega
      · exact wsBytes_rng _ z hz)
    have hS : Below W0.heap.size W0 w3 := HS2.out.trans hb3
    refine hK.out _ _ hS ?_
    clear hK K'
    have HY3 := Lib.hid hy3
    have HS3 := Lib.hid hS
    clear hr3 hb3 hy3 hS
    refine heldS_call (i := 9) (by kernel_rfl) rfl (fun K' hK => ?_)
    go_simp
    refine hK.out _ _ HS3.out ?_
    clear hK K'
    refine heldS_call (i := 10) (by kernel_rfl) rfl (fun K' hK => ?_)
    go_simp
    refine hK.out _ _ HS3.out ?_
    clear hK K'
    refine wpAnyH_done (by kernel_rfl) ?_ _
    go_wp2
    go_ret2
    exact ⟨A3, k3, rfl, HY3.out, HBw.out.trans (HS3.out.mono hswB)⟩
  · go_simp
    refine hK.out _ _ (((Below.refl _ W0).alloc (Nat.le_refl _) _).drew) ?_
    clear hK K'
    refine heldS_two (i := 3) (j := 7) (by kernel_rfl) rfl rfl (fun K' hK => ?_) (fun K' hK => ?_)
    · go_simp
      refine hK.out _ _ ((((Below.refl _ W0).alloc (Nat.le_refl _) _).alloc (by simp) _).drew) ?_
      clear hK K'
      refine heldS_call (i := 7) (by kernel_rfl) rfl (fun K' hK => ?_)
      go_simp
      refine (words_any _ 1 1 [r] _ (WsD ((Ws.one W0 r).below ((Below.refl _ _).alloc (Nat.le_refl _) _))) (by omega)).mono ?_
      rintro e w2 ⟨v2, rfl, ho, hb⟩
      have hS : Below W0.heap.size W0 w2 := (((Below.refl _ W0).alloc (Nat.le_refl _) _).alloc (by simp) _).drew.trans (hb.mono (by first | (simp; omega) | simp))
      refine hK.out _ _ hS ?_
      clear hK K'
      obtain ⟨A2, k2, rfl, _, _, hby⟩ := own_bytes ho (wsBytes_rng _)
      have hlb := hby.len
      have hrow : Row w2 W0.heap.size (.slice (some ⟨W0.heap.size + 1, 0, none⟩) 1 1) 1 [h] := (RowD (row_one_at (base := W0.heap.size) (W0.alloc (.cells #[.int .u64 (val r)] 22)) h (by simp) (by simp))).below (hb.mono (by first | (simp; omega) | simp))
      obtain ⟨a2, rfl, _⟩ := hby.at_ 0 (by decide)
      have HY := Lib.hid hby
      have HRW := Lib.hid hrow
      have HS2 := Lib.hid hS
      have hsz := hS.size
      clear hby hrow hS
      refine heldS_call (i := 8) (by kernel_rfl) rfl (fun K' hK => ?_)
      refine step_row rfl _ _ rfl W0.heap.size _ 1 [h] a2 8 k2 (wsBytes [r]) HRW.out rfl HY.out rfl (by omega) hsz ?_
      intro v3 w3 hr3 hb3
      obtain ⟨A3, k3, rfl, _, _, hy3⟩ := hr3.bytes (by
        intro z hz
        simp only [List.cons_append, List.nil_append, List.mem_cons] at hz
        rcases hz with rfl | hz
        · omega
        · exact wsBytes_rng _ z hz)
      have hS : Below W0.heap.size W0 w3 := HS2.out.trans hb3
      refine hK.out _ _ hS ?_
      clear hK K'
      have HY3 := Lib.hid hy3
      have HS3 := Lib.hid hS
      clear hr3 hb3 hy3 hS
      refine heldS_call (i := 9) (by kernel_rfl) rfl (fun K' hK => ?_)
      go_simp
      refine hK.out _ _ HS3.out ?_
      clear hK K'
      refine heldS_call (i := 10) (by kernel_rfl) rfl (fun K' hK => ?_)
      go_simp
      refine hK.out _ _ HS3.out ?_
      clear hK K'
      refine wpAnyH_done (by kernel_rfl) ?_ _
      go_wp2
      go_ret2
      exact ⟨A3, k3, rfl, HY3.out, HBw.out.trans (HS3.out.mono hswB)⟩
    · go_simp
      refine (words_any _ 1 1 [r] _ (WsD (Ws.one W0 r)) (by omega)).mono ?_
      rintro e w2 ⟨v2, rfl, ho, hb⟩
      have hS : Below W0.heap.size W0 w2 := ((Below.refl _ W0).alloc (Nat.le_refl _) _).drew.trans (hb.mono (by first | (simp; omega) | simp))
      refine hK.out _ _ hS ?_
      clear hK K'
      obtain ⟨A2, k2, rfl, _, _, hby⟩ := own_bytes ho (wsBytes_rng _)
      have hlb := hby.len
      have hsq := hS.size
      refine heldS_call (i := 3) (by kernel_rfl) rfl (fun K' hK => ?_)
      go_simp
      refine hK.out _ _ (hS.alloc hsq _) ?_
      clear hK K'
      have hrow : Row (w2.alloc (.cells #[.int .u8 h] 5)) W0.heap.size (.slice (some ⟨w2.heap.size, 0, none⟩) 1 1) 1 [h] := row_one w2 h hsq
      replace hby := hby.below ((Below.refl _ w2).alloc (Nat.le_refl _) (.cells #[.int .u8 h] 5))
      replace hS := hS.alloc hsq (.cells #[.int .u8 h] 5)
      obtain ⟨a2, rfl, _⟩ := hby.at_ 0 (by decide)
      have HY := Lib.hid hby
      have HRW := Lib.hid hrow
      have HS2 := Lib.hid hS
      have hsz := hS.size
      clear hby hrow hS
      refine heldS_call (i := 8) (by kernel_rfl) rfl (fun K' hK => ?_)
      refine step_row rfl _ _ rfl W0.heap.size _ 1 [h] a2 8 k2 (wsBytes [r]) HRW.out rfl HY.out rfl (by omega) hsz ?_
      intro v3 w3 hr3 hb3
      obtain ⟨A3, k3, rfl, _, _, hy3⟩ := hr3.bytes (by
        intro z hz
        simp only [List.cons_append, List.nil_append, List.mem_cons] at hz
        rcases hz with rfl | hz
        · omega
        · exact wsBytes_rng _ z hz)
      have hS : Below W0.heap.size W0 w3 := HS2.out.trans hb3
      refine hK.out _ _ hS ?_
      clear hK K'
      have HY3 := Lib.hid hy3
      have HS3 := Lib.hid hS
      clear hr3 hb3 hy3 hS
      refine heldS_call (i := 9) (by kernel_rfl) rfl (fun K' hK => ?_)
      go_simp
      refine hK.out _ _ HS3.out ?_
      clear hK K'
      refine heldS_call (i := 10) (by kernel_rfl) rfl (fun K' hK => ?_)
      go_simp
      refine hK.out _ _ HS3.out ?_
      clear hK K'
      refine wpAnyH_done (by kernel_rfl) ?_ _
      go_wp2
      go_ret2
      exact ⟨A3, k3, rfl, HY3.out, HBw.out.trans (HS3.out.mono hswB)⟩
set_option maxHeartbeats 2000000 in
theorem encKR_ok (h : Int) (r : BitVec 64) (w : World) (hh : hgtB h = true) :
    Calls Try.prog 20 #[.agg #[.int .i64 h, .int .u64 (val r)]] w fun e w' => ∃ A c, e = .returned (.tuple #[.slice A 9 c, .int .i64 0]) ∧ Bytes w' A 9 (h :: wsBytes [r]) ∧ Below w.heap.size w w' := by
  have h04 : 0 ≤ h ∧ h ≤ 4 := by rcases hgt_cases hh with e | e | e | e | e <;> omega
  have h0 := h04.1
  have h1 := h04.2
  have h8 : IntKind.u8.wrap h = h := by rw [IntKind.wrap_u8]; omega
  have HH := Lib.hid hh
  clear hh h04
  go_enter Try.func20, Try.ntmps20
  go_wp2_with fail
  refine (hgtR_any _ _).mono ?_
  rintro e w' ⟨rfl, rfl⟩
  rw [HH.out]
  go_wp2_with fail
  refine one_cs _ [.int .i64 h, .int .u64 (val r)] ?_
  intro W0 hk hbw
  have HK := Lib.hid hk
  have hlk := hk.lt
  have HBw := Lib.hid hbw
  have hswB := hbw.size
  clear hk hbw
  refine wp_region_held (S := fun W => Below W0.heap.size W0 W) (by kernel_rfl) ?_
  refine heldS_take (i := 0) (v := ?_) rfl rfl (by kernel_rfl) (by kernel_rfl) (by kernel_rfl) (fun _ _ _ h => h) (by rfl) ((Below.refl _ W0).drew) ?_ ?_
  rotate_left
  · intro W hW
    go_simp
    try with_reducible rfl
  simp only [Act.put, List.setIfInBounds_toArray, List.set_cons_zero, List.set_cons_succ]
  refine heldS_take (i := 1) (v := ?_) rfl rfl (by kernel_rfl) (by kernel_rfl) (by kernel_rfl) (fun _ _ _ h => h) (by rfl) ((Below.refl _ W0).drew) ?_ ?_
  rotate_left
  · intro W hW
    have e0 := (HK.out.below hW hlk).cell 0
    have e1 := (HK.out.below hW hlk).cell 1
    simp only [List.getElem?_cons_succ, List.getElem?_cons_zero] at e0 e1
    go_simp
    try with_reducible rfl
  simp only [Act.put, List.setIfInBounds_toArray, List.set_cons_zero, List.set_cons_succ]
  refine heldS_take (i := 2) (v := ?_) rfl rfl (by kernel_rfl) (by kernel_rfl) (by kernel_rfl) (fun _ _ _ h => h) (by rfl) ((Below.refl _ W0).drew) ?_ ?_
  rotate_left
  · intro W hW
    go_simp
    try with_reducible rfl
  simp only [Act.put, List.setIfInBounds_toArray, List.set_cons_zero, List.set_cons_succ]
  refine heldS_take (i := 4) (v := ?_) rfl rfl (by kernel_rfl) (by kernel_rfl) (by kernel_rfl) (fun _ _ _ h => h) (by rfl) ((Below.refl _ W0).drew) ?_ ?_
  rotate_left
  · intro W hW
    go_simp
    try with_reducible rfl
  simp only [Act.put, List.setIfInBounds_toArray, List.set_cons_zero, List.set_cons_succ]
  refine heldS_take (i := 5) (v := ?_) rfl rfl (by kernel_rfl) (by kernel_rfl) (by kernel_rfl) (fun _ _ _ h => h) (by rfl) ((Below.refl _ W0).drew) ?_ ?_
  rotate_left
  · intro W hW
    have e0 := (HK.out.below hW hlk).cell 0
    have e1 := (HK.out.below hW hlk).cell 1
    simp only [List.getElem?_cons_succ, List.getElem?_cons_zero] at e0 e1
    go_simp
    try with_reducible rfl
  simp only [Act.put, List.setIfInBounds_toArray, List.set_cons_zero, List.set_cons_succ]
  refine heldS_two (i := 3) (j := 6) (by kernel_rfl) rfl rfl (fun K' hK => ?_) (fun K' hK => ?_)
  · go_simp
    refine hK.out _ _ (((Below.refl _ W0).alloc (Nat.le_refl _) _).drew) ?_
    clear hK K'
    refine heldS_call (i := 6) (by kernel_rfl) rfl (fun K' hK => ?_)
    go_simp
    refine hK.out _ _ ((((Below.refl _ W0).alloc (Nat.le_refl _) _).alloc (by simp) _).drew) ?_
    clear hK K'
    refine heldS_call (i := 7) (by kernel_rfl) rfl (fun K' hK => ?_)
    go_simp
    refine (wordsR_any _ 1 1 [r] _ (WsD (ws_one_at (n := W0.heap.size + 1) (W0.alloc (.cells #[.int .u8 h] 5)) r (by simp))) (by omega)).mono ?_
    rintro e w2 ⟨v2, rfl, ho, hb⟩
    have hS : Below W0.heap.size W0 w2 := (((Below.refl _ W0).alloc (Nat.le_refl _) _).alloc (by simp) _).drew.trans (hb.mono (by first | (simp; omega) | simp))
    refine hK.out _ _ hS ?_
    clear hK K'
    obtain ⟨A2, k2, rfl, _, _, hby⟩ := own_bytes ho (wsBytes_rng _)
    have hlb := hby.len
    have hrow : Row w2 W0.heap.size (.slice (some ⟨W0.heap.size, 0, none⟩) 1 1) 1 [h] := (RowD ((row_one W0 h (Nat.le_refl _)).alloc _)).below (hb.mono (by first | (simp; omega) | simp))
    obtain ⟨a2, rfl, _⟩ := hby.at_ 0 (by decide)
    have HY := Lib.hid hby
    have HRW := Lib.hid hrow
    have HS2 := Lib.hid hS
    have hsz := hS.size
    clear hby hrow hS
    refine heldS_call (i := 8) (by kernel_rfl) rfl (fun K' hK => ?_)
    refine step_row rfl _ _ rfl W0.heap.size _ 1 [h] a2 8 k2 (wsBytes [r]) HRW.out rfl HY.out rfl (by omega) hsz ?_
    intro v3 w3 hr3 hb3
    obtain ⟨A3, k3, rfl, _, _, hy3⟩ := hr3.bytes (by
      intro z hz
      simp only [List.cons_append, List.nil_append, List.mem_cons] at hz
      rcases hz with rfl | hz
      · omega
      · exact wsBytes_rng _ z hz)
    have hS : Below W0.heap.size W0 w3 := HS2.out.trans hb3
    refine hK.out _ _ hS ?_
    clear hK K'
    have HY3 := Lib.hid hy3
    have HS3 := Lib.hid hS
    clear hr3 hb3 hy3 hS
    refine heldS_call (i := 9) (by kernel_rfl) rfl (fun K' hK => ?_)
    go_simp
    refine hK.out _ _ HS3.out ?_
    clear hK K'
    refine heldS_call (i := 10) (by kernel_rfl) rfl (fun K' hK => ?_)
    go_simp
    refine hK.out _ _ HS3.out ?_
    clear hK K'
    refine wpAnyH_done (by kernel_rfl) ?_ _
    go_wp2
    go_ret2
    exact ⟨A3, k3, rfl, HY3.out, HBw.out.trans (HS3.out.mono hswB)⟩
  · go_simp
    refine hK.out _ _ (((Below.refl _ W0).alloc (Nat.le_refl _) _).drew) ?_
    clear hK K'
    refine heldS_two (i := 3) (j := 7) (by kernel_rfl) rfl rfl (fun K' hK => ?_) (fun K' hK => ?_)
    · go_simp
      refine hK.out _ _ ((((Below.refl _ W0).alloc (Nat.le_refl _) _).alloc (by simp) _).drew) ?_
      clear hK K'
      refine heldS_call (i := 7) (by kernel_rfl) rfl (fun K' hK => ?_)
      go_simp
      refine (wordsR_any _ 1 1 [r] _ (WsD ((Ws.one W0 r).below ((Below.refl _ _).alloc (Nat.le_refl _) _))) (by omega)).mono ?_
      rintro e w2 ⟨v2, rfl, ho, hb⟩
      have hS : Below W0.heap.size W0 w2 := (((Below.refl _ W0).alloc (Nat.le_refl _) _).alloc (by simp) _).drew.trans (hb.mono (by first | (simp; omega) | simp))
      refine hK.out _ _ hS ?_
      clear hK K'
      obtain ⟨A2, k2, rfl, _, _, hby⟩ := own_bytes ho (wsBytes_rng _)
      have hlb := hby.len
      have hrow : Row w2 W0.heap.size (.slice (some ⟨W0.heap.size + 1, 0, none⟩) 1 1) 1 [h] := (RowD (row_one_at (base := W0.heap.size) (W0.alloc (.cells #[.int .u64 (val r)] 22)) h (by simp) (by simp))).below (hb.mono (by first | (simp; omega) | simp))
      obtain ⟨a2, rfl, _⟩ := hby.at_ 0 (by decide)
      have HY := Lib.hid hby
      have HRW := Lib.hid hrow
      have HS2 := Lib.hid hS
      have hsz := hS.size
      clear hby hrow hS
      refine heldS_call (i := 8) (by kernel_rfl) rfl (fun K' hK => ?_)
      refine step_row rfl _ _ rfl W0.heap.size _ 1 [h] a2 8 k2 (wsBytes [r]) HRW.out rfl HY.out rfl (by omega) hsz ?_
      intro v3 w3 hr3 hb3
      obtain ⟨A3, k3, rfl, _, _, hy3⟩ := hr3.bytes (by
        intro z hz
        simp only [List.cons_append, List.nil_append, List.mem_cons] at hz
        rcases hz with rfl | hz
        · omega
        · exact wsBytes_rng _ z hz)
      have hS : Below W0.heap.size W0 w3 := HS2.out.trans hb3
      refine hK.out _ _ hS ?_
      clear hK K'
      have HY3 := Lib.hid hy3
      have HS3 := Lib.hid hS
      clear hr3 hb3 hy3 hS
      refine heldS_call (i := 9) (by kernel_rfl) rfl (fun K' hK => ?_)
      go_simp
      refine hK.out _ _ HS3.out ?_
      clear hK K'
      refine heldS_call (i := 10) (by kernel_rfl) rfl (fun K' hK => ?_)
      go_simp
      refine hK.out _ _ HS3.out ?_
      clear hK K'
      refine wpAnyH_done (by kernel_rfl) ?_ _
      go_wp2
      go_ret2
      exact ⟨A3, k3, rfl, HY3.out, HBw.out.trans (HS3.out.mono hswB)⟩
    · go_simp
      refine (wordsR_any _ 1 1 [r] _ (WsD (Ws.one W0 r)) (by omega)).mono ?_
      rintro e w2 ⟨v2, rfl, ho, hb⟩
      have hS : Below W0.heap.size W0 w2 := ((Below.refl _ W0).alloc (Nat.le_refl _) _).drew.trans (hb.mono (by first | (simp; omega) | simp))
      refine hK.out _ _ hS ?_
      clear hK K'
      obtain ⟨A2, k2, rfl, _, _, hby⟩ := own_bytes ho (wsBytes_rng _)
      have hlb := hby.len
      have hsq := hS.size
      refine heldS_call (i := 3) (by kernel_rfl) rfl (fun K' hK => ?_)
      go_simp
      refine hK.out _ _ (hS.alloc hsq _) ?_
      clear hK K'
      have hrow : Row (w2.alloc (.cells #[.int .u8 h] 5)) W0.heap.size (.slice (some ⟨w2.heap.size, 0, none⟩) 1 1) 1 [h] := row_one w2 h hsq
      replace hby := hby.below ((Below.refl _ w2).alloc (Nat.le_refl _) (.cells #[.int .u8 h] 5))
      replace hS := hS.alloc hsq (.cells #[.int .u8 h] 5)
      obtain ⟨a2, rfl, _⟩ := hby.at_ 0 (by decide)
      have HY := Lib.hid hby
      have HRW := Lib.hid hrow
      have HS2 := Lib.hid hS
      have hsz := hS.size
      clear hby hrow hS
      refine heldS_call (i := 8) (by kernel_rfl) rfl (fun K' hK => ?_)
      refine step_row rfl _ _ rfl W0.heap.size _ 1 [h] a2 8 k2 (wsBytes [r]) HRW.out rfl HY.out rfl (by omega) hsz ?_
      intro v3 w3 hr3 hb3
      obtain ⟨A3, k3, rfl, _, _, hy3⟩ := hr3.bytes (by
        intro z hz
        simp only [List.cons_append, List.nil_append, List.mem_cons] at hz
        rcases hz with rfl | hz
        · omega
        · exact wsBytes_rng _ z hz)
      have hS : Below W0.heap.size W0 w3 := HS2.out.trans hb3
      refine hK.out _ _ hS ?_
      clear hK K'
      have HY3 := Lib.hid hy3
      have HS3 := Lib.hid hS
      clear hr3 hb3 hy3 hS
      refine heldS_call (i := 9) (by kernel_rfl) rfl (fun K' hK => ?_)
      go_simp
      refine hK.out _ _ HS3.out ?_
      clear hK K'
      refine heldS_call (i := 10) (by kernel_rfl) rfl (fun K' hK => ?_)
      go_simp
      refine hK.out _ _ HS3.out ?_
      clear hK K'
      refine wpAnyH_done (by kernel_rfl) ?_ _
      go_wp2
      go_ret2
      exact ⟨A3, k3, rfl, HY3.out, HBw.out.trans (HS3.out.mono hswB)⟩
end Go.Proofs.Ythgahjihgoiklaa
