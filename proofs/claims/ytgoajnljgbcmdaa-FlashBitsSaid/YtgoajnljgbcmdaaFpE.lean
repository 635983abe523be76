/- bytes.Repeat of one byte; New of the program. -/
import Derived.Test.YtgoajnljgbcmdaaFpD
import Derived.Shelf.Bits.Mul64
import Derived.Lib.MakeNoZero
import Derived.Laws.IdiomCopy
import Derived.Laws.Externs
import Derived.Shelf.RegionOpenPlain
namespace Go.Proofs.Ytgoajnljgbcmdaa
open Go.RowKit
set_option maxRecDepth 100000

/-- block h is a buffer of N bytes, of which the first b are 255 -/
structure Fill (w W : World) (h N b : Nat) : Prop where
  below : Below w.heap.size w W
  base : w.heap.size ≤ h
  lt : h < W.heap.size
  there : ∀ j, j < N → (W.cell? ⟨h, j, none⟩).isSome = true
  free : ∀ j, j < N → W.frozen? ⟨h, j, none⟩ = false
  holds : ∀ j, j < b → W.cell? ⟨h, j, none⟩ = some (.int .u8 255)
theorem ff_at (d j : Nat) (h : j < d) : (List.replicate d (Value.int .u8 255))[j]? = some (.int .u8 255) := by rw [List.getElem?_replicate, if_pos h]
theorem ff_one (d : Nat) : ∀ v ∈ List.replicate d (Value.int .u8 255), v.oneCell' = true := by
  intro v hv
  rw [(List.mem_replicate.1 hv).2]
  rfl
theorem Fill.more {w W : World} {h N b : Nat} (H : Fill w W h N b) (d : Nat) (hd : b + d ≤ N) : Fill w (W.setCells h b (List.replicate d (.int .u8 255))) h N (b + d) := by
  have hbl : Below w.heap.size W (W.setCells h b (List.replicate d (.int .u8 255))) := below_setCells H.base _ _ _
  refine ⟨H.below.trans hbl, H.base, Nat.lt_of_lt_of_le H.lt hbl.size, fun j hj => some_setCells h _ _ W _ (H.there j hj), fun j hj => ?_, fun j hj => ?_⟩
  · rw [World.frozen?_setCells]
    exact H.free j hj
  · by_cases hjb : j < b
    · rw [World.cell?_setCells_out h _ b W ⟨h, j, none⟩ (fun _ _ => Or.inl hjb)]
      exact H.holds j hjb
    · obtain ⟨i, rfl⟩ : ∃ i, j = b + i := ⟨j - b, by omega⟩
      have := World.cell?_setCells_in h (List.replicate d (Value.int .u8 255)) b W (fun i hi => H.there _ (by rw [List.length_replicate] at hi; omega)) i (by rw [List.length_replicate]; omega)
      rw [this, List.getElem_replicate]
theorem Fill.row {w W : World} {h N : Nat} (H : Fill w W h N N) (hN : N ≤ 1000000) : Row W w.heap.size (.slice (some ⟨h, 0, none⟩) N N) N (List.replicate N 255) := by
  refine ⟨List.length_replicate, .inr ⟨h, N, rfl, H.base, H.lt, Nat.le_refl _, by unfold maxLen; omega, fun j hj => ?_, fun j hj => ⟨H.there j hj, H.free j hj⟩⟩⟩
  rw [H.holds j hj]
  simp [List.getD, hj]
theorem info8 : (Try.prog.info? 5).map (·.size) = some 1 := by
  obtain ⟨i0, hi, _, hz1, _⟩ := info_parts infoB
  rw [hi]
  simp [hz1]
theorem Fill.copy {w W : World} {h N b ch cap cap2 d : Nat} {ty : TypeId} (H : Fill w W h N b) (hch : ch ≤ b) (hd : d = Nat.min ch (N - b)) :
    (Builtin.copy_ #[22, 22] ty #[.slice (some ⟨h, b, none⟩) (N - b) cap2, .slice (some ⟨h, 0, none⟩) ch cap]).run Try.prog W = .ok (.int .i64 (d : Int)) (W.setCells h b (List.replicate d (.int .u8 255))) := by
  have hdl : d ≤ ch ∧ d ≤ N - b := by rw [hd]; exact ⟨Nat.min_le_left _ _, Nat.min_le_right _ _⟩
  have hr := run_copy_cells (P := Try.prog) W 22 22 ty 5 h b (N - b) cap2 ⟨h, 0, none⟩ ch cap (List.replicate d (.int .u8 255)) Try.underlying22 info8 (by rw [List.length_replicate]; exact hd)
    (fun j v hj => by
      have hjd : j < d := by
        rcases Nat.lt_or_ge j d with h1 | h1
        · exact h1
        · rw [List.getElem?_eq_none (by rw [List.length_replicate]; exact h1)] at hj
          cases hj
      rw [ff_at d j hjd] at hj
      cases hj
      rw [addr_add]
      exact H.holds j (by omega))
    (fun j hj => by rw [List.length_replicate] at hj; exact H.there _ (by omega)) (fun j hj => by rw [List.length_replicate] at hj; exact H.free _ (by omega)) (ff_one d)
  rw [List.length_replicate] at hr
  exact hr
theorem Fill.first {w W : World} {h N c : Nat} {A : Addr} {ty : TypeId} (H : Fill w W h N 0) (hA : Bytes W (some A) 1 [255]) (hN : 1 ≤ N) :
    (Builtin.copy_ #[22, 22] ty #[.slice (some ⟨h, 0, none⟩) N N, .slice (some A) 1 c]).run Try.prog W = .ok (.int .i64 1) (W.setCells h 0 (List.replicate 1 (.int .u8 255))) := by
  have hr := run_copy_cells (P := Try.prog) W 22 22 ty 5 h 0 N N A 1 c (List.replicate 1 (.int .u8 255)) Try.underlying22 info8 (by rw [List.length_replicate]; exact (Nat.min_eq_left hN).symm)
    (fun j v hj => hA.cells j v hj)
    (fun j hj => by rw [List.length_replicate] at hj; exact H.there _ (by omega)) (fun j hj => by rw [List.length_replicate] at hj; exact H.free _ (by omega)) (ff_one 1)
  exact hr
theorem Fill.new (w : World) (C : Array Value) (N : Nat) (hN : N ≤ C.size) : Fill w ((w.alloc (.cells C 5)).drewN 2) w.heap.size N 0 := by
  refine ⟨?_, Nat.le_refl _, ?_, fun j hj => ?_, fun j _ => ?_, fun j hj => absurd hj (by omega)⟩
  · exact ⟨rfl, rfl, rfl, by simp, fun k hk => heap_alloc_old w _ hk⟩
  · simp
  · rw [World.cell?_drewN, World.cell?_alloc_mark, Array.getElem?_eq_getElem (by omega)]
    rfl
  · rw [World.frozen?_drewN]
    have := World.frozen?_alloc_mark w C 5 0 0 j
    rw [this]
    simp
theorem add_wrap (b d : Nat) (h : b + d ≤ 1000000000000) : IntKind.i64.wrap ((b : Int) + (d : Int)) = ((b + d : Nat) : Int) := by rw [IntKind.wrap_i64]; omega
theorem Fill.drew {w W : World} {h N b : Nat} (H : Fill w W h N b) : Fill w W.drew h N b := ⟨H.below.drew, H.base, H.lt, H.there, H.free, H.holds⟩
theorem hs_copy {o : Oper} {a : Act} {W W' : World} {K : Act → World → Prop} {Q : Exit → Act → World → Prop} {E : Prop} {ops : Array Oper} (hw : Region.wanted o (yielded ops a.tmps) = true) (d s : Operand)
    (ho : o.op = .call { callee := .builtin .copy, args := #[d, s], argTypes := #[22, 22] }) (v u : Value) (hd : a.eval d = v) (hs : a.eval s = u) {v' : Value}
    (hr : (Builtin.copy_ #[22, 22] o.type #[v, u]).run Try.prog W = .ok v' W') (h : K (a.put o.dst v') W') :
    if Region.wanted o (yielded ops a.tmps) = true then Oper.wp Try.prog o a W K Q else E := by
  rw [if_pos hw]
  unfold Oper.wp execOp
  simp only [ho, resolve, invoke, builtin, Sem.run_bind, Sem.run_pure, Result.andThen_ok, List.map_toArray, List.map_cons, List.map_nil, hd, hs, hr]
  exact h
def Try.lays264_ren : Go.Shelf.Ren := ⟨fun | 264 => 38 | n => n, fun | 46 => 30 | 53 => 64 | n => n, fun | n => n⟩
theorem Try.lays264 : Go.Proofs.Lays.n264 Try.prog Try.lays264_ren := {
  mixed := by kernel_rfl
  f264 := Try.func38.trans (congrArg some (by kernel_rfl))
  t46 := Try.underlying30
  a46 := Try.isAgg30
  z46 := Try.sizeOf30
  v46 := Try.zeroValue30
  t53 := Try.underlying64
  a53 := Try.isAgg64
  z53 := Try.sizeOf64
  v53 := Try.zeroValue64 }
theorem mul_one_any (N : Nat) (w : World) (hN : N ≤ 1000000) :
    Calls Try.prog 32 #[.int .u64 1, .int .u64 (N : Int)] w fun e w' => e = .returned (.tuple #[.int .u64 0, .int .u64 (N : Int)]) ∧ w = w' := by
  have c1 := fun w => Any.bits_Mul64 Try.lays264 1 N (by decide) (by omega) w
  rw [Nat.one_mul, Nat.div_eq_of_lt (by omega), Nat.mod_eq_of_lt (by omega)] at c1
  have c2 : ∀ w, Calls Try.prog 38 #[.int .u64 1, .int .u64 (N : Int)] w fun e w' => e = .returned (.tuple #[.int .u64 0, .int .u64 (N : Int)]) ∧ w' = w := fun w => c1 w
  have C2 := Lib.hid c2
  clear c1 c2
  go_enter Try.func32, Try.ntmps32
  go_wp2_with fail
  refine (C2.out _).mono ?_
  rintro e w1 ⟨rfl, rfl⟩
  go_wp2
  refine bodyPost_ret (v := .tuple #[.int .u64 0, .int .u64 (N : Int)]) (by simp [results, Try.results32, go_sem, *]) rfl ?_
  exact ⟨rfl, rfl⟩
set_option maxHeartbeats 4000000 in
theorem repeat_small (A : Addr) (c N : Nat) (w : World) (hA : Bytes w (some A) 1 [255]) (h1 : 1 ≤ N) (h2 : N ≤ 8192) (h3 : N ≤ 65536) :
    Calls Try.prog 23 #[.slice (some A) 1 c, .int .i64 (N : Int)] w fun e w' => ∃ v, e = .returned v ∧ Row w' w.heap.size v N (List.replicate N 255) ∧ Below w.heap.size w w' := by
  have cM := fun w => mul_one_any N w (by omega)
  have CM := Lib.hid cM
  have hnz : ¬ (N : Int) = 0 := by omega
  have hnn : ¬ (N : Int) < 0 := by omega
  have hwu : IntKind.u64.wrap (N : Int) = (N : Int) := by rw [IntKind.wrap_u64]; omega
  have hwi : IntKind.i64.wrap (N : Int) = (N : Int) := by rw [IntKind.wrap_i64]; omega
  have hmx : ¬ (9223372036854775807 : Int) < (N : Int) := by omega
  have h8 : ¬ (8192 : Int) < (N : Int) := by omega
  obtain ⟨cs, hrunM, hle, hmm⟩ := Lib.run_makeNoZero (P := Try.prog) w #[3] 22 5 Try.underlying22 N (by omega)
  have hcall : (callFunc 33 #[.int .i64 (N : Int)]).run Try.prog w = .ok (.value (.slice (some ⟨w.heap.size, 0, none⟩) N cs.size)) ((w.alloc (.cells cs 5)).drewN 2) := by
    rw [run_callFunc_extern Try.func33 (by kernel_rfl) (by kernel_rfl) (by kernel_rfl) (e := Extern.BytealgMakeNoZero.makeNoZero #[3] #[22]) (by kernel_rfl), hrunM]
    rfl
  clear hrunM hmm
  have i0 : (0 : Int) ≤ (N : Int) := by omega
  have i1 : (N : Int) ≤ (cs.size : Int) := by omega
  have B0 := Fill.new w cs N hle
  have hc1 := fun ty => B0.first (c := c) (ty := ty) (hA.below B0.below) h1
  have B1 : Hid (Fill w (((w.alloc (.cells cs 5)).drewN 2).setCells w.heap.size 0 (List.replicate 1 (.int .u8 255))) w.heap.size N (0 + 1)) := Lib.hid (B0.more 1 (by omega))
  generalize hWW : ((w.alloc (.cells cs 5)).drewN 2).setCells w.heap.size 0 (List.replicate 1 (.int .u8 255)) = WW at *
  have HN := Lib.hid (And.intro h1 (And.intro h2 h3))
  clear B0 hWW hA hle h1 h2 h3 cM
  go_enter Try.func23, Try.ntmps23
  go_wp2_with fail
  refine (CM.out _).mono ?_
  rintro e w1 ⟨rfl, rfl⟩
  go_wp2_with (at_builtin; refine Lib.wpList_copy_run _ rfl _ _ 22 22 rfl _ _ rfl rfl (hc1 _) ?_)
  go_loopw [10] (fun bv wr => ∃ b : Nat, 1 ≤ b ∧ b ≤ N ∧ bv = .int .i64 (b : Int) ∧ Hid (Fill w wr w.heap.size N b)) (fun bv _ => N - (intOf bv).toNat)
  case atStart => exact ⟨1, Nat.le_refl _, HN.out.1, rfl, B1⟩
  case round =>
    obtain ⟨b, hb1, hbN, rfl, HI⟩ := hrel
    clear hcall hc1 B1 hwu hwi hmx hnz hnn i1
    by_cases hb : b = N
    · subst hb
      have HR := Lib.hid (HI.out.row (Nat.le_trans HN.out.2.2 (by decide)))
      go_wp2
      go_ret
      exact ⟨_, rfl, HR.out, HI.out.below⟩
    · have hlt : (b : Int) < (N : Int) := by omega
      have hchb : b ≤ b := Nat.le_refl _
      have hch1 := hb1
      obtain ⟨d, hd⟩ : ∃ d, d = Nat.min b (N - b) := ⟨_, rfl⟩
      have hd1 : 1 ≤ d := by rw [hd]; exact Nat.le_min.2 ⟨hch1, by omega⟩
      have hd2 : d ≤ N - b := by rw [hd]; exact Nat.min_le_right _ _
      have HID := Lib.hid HI.out.drew
      have hcp := fun ty => HID.out.copy (cap := N) (cap2 := N - b) (ty := ty) hchb hd
      have HM := Lib.hid (HID.out.more d (by omega))
      have hbw := add_wrap b d (Nat.le_trans (Nat.le_trans (show b + d ≤ N by omega) HN.out.2.2) (by decide))
      have hdI : (d : Int) ≤ (N : Int) - (b : Int) := by omega
      have hchI : b ≤ N := by omega
      clear hd
      have hsl1 : ∀ W, (Instr.slice 22 (.slice (some ⟨w.heap.size, 0, none⟩) N N) (some (.int .i64 (b : Int))) none none).run Try.prog W = .ok (.slice (some ⟨w.heap.size, b, none⟩) (N - b) (N - b)) W := by
        intro W
        have hbp : ¬ b = 0 := by omega
        have hne : ¬ N = b := by omega
        simp [go_sem, sliced, Addr.add, hbp, hne, hbN]
        done
      have hsl2 : ∀ W, (Instr.slice 22 (.slice (some ⟨w.heap.size, 0, none⟩) N N) none (some (.int .i64 (b : Int))) none).run Try.prog W = .ok (.slice (some ⟨w.heap.size, 0, none⟩) b N) W := by
        intro W
        simp [go_sem, sliced, Addr.add, hchI]
        done
      generalize hWX : wr.drew.setCells w.heap.size b (List.replicate d (Value.int .u8 255)) = WX at *
      clear hWX
      go_wp2_with fail
      refine wp_region_held (S := fun W => Below w.heap.size w W) (by kernel_rfl) ?_
      have hS0 : Below w.heap.size w wr.drew := HID.out.below
      refine hs_take (i := 0) (v := ?_) rfl rfl (by kernel_rfl) (by kernel_rfl) (by kernel_rfl) (fun _ _ _ h => h) (by rfl) hS0 ?_ ?_
      rotate_left
      · intro W hW
        go_simp
        try with_reducible rfl
      simp only [Act.put, List.setIfInBounds_toArray, List.set_cons_zero, List.set_cons_succ]
      refine hs_take (i := 1) (v := ?_) rfl rfl (by kernel_rfl) (by kernel_rfl) (by kernel_rfl) (fun _ _ _ h => h) (by rfl) hS0 ?_ ?_
      rotate_left
      · intro W hW
        go_simp
        try with_reducible rfl
      simp only [Act.put, List.setIfInBounds_toArray, List.set_cons_zero, List.set_cons_succ]
      refine hs_take (i := 2) (v := ?_) rfl rfl (by kernel_rfl) (by kernel_rfl) (by kernel_rfl) (fun _ _ _ h => h) (by rfl) hS0 ?_ ?_
      rotate_left
      · intro W hW
        go_simp
        try with_reducible rfl
      simp only [Act.put, List.setIfInBounds_toArray, List.set_cons_zero, List.set_cons_succ]
      refine hs_take (i := 3) (v := ?_) rfl rfl (by kernel_rfl) (by kernel_rfl) (by kernel_rfl) (fun _ _ _ h => h) (by rfl) hS0 ?_ ?_
      rotate_left
      · intro W hW
        go_simp
        try with_reducible rfl
      simp only [Act.put, List.setIfInBounds_toArray, List.set_cons_zero, List.set_cons_succ]
      refine hs_take (i := 4) (v := ?_) rfl rfl (by kernel_rfl) (by kernel_rfl) (by kernel_rfl) (fun _ _ _ h => h) (by rfl) hS0 ?_ ?_
      rotate_left
      · intro W hW
        go_simp
        try with_reducible rfl
      simp only [Act.put, List.setIfInBounds_toArray, List.set_cons_zero, List.set_cons_succ]
      refine hs_take (i := 5) (v := ?_) rfl rfl (by kernel_rfl) (by kernel_rfl) (by kernel_rfl) (fun _ _ _ h => h) (by rfl) hS0 ?_ ?_
      rotate_left
      · intro W hW
        go_simp
        try with_reducible rfl
      simp only [Act.put, List.setIfInBounds_toArray, List.set_cons_zero, List.set_cons_succ]
      refine hs_take (i := 6) (v := ?_) rfl rfl (by kernel_rfl) (by kernel_rfl) (by kernel_rfl) (fun _ _ _ h => h) (by rfl) hS0 ?_ ?_
      rotate_left
      · intro W hW
        go_simp
        try with_reducible rfl
      simp only [Act.put, List.setIfInBounds_toArray, List.set_cons_zero, List.set_cons_succ]
      refine hs_call (i := 7) (by kernel_rfl) rfl (fun K' hK => ?_)
      refine hs_copy (by rfl) _ _ rfl _ _ rfl rfl (hcp _) ?_
      refine hK.out _ _ HM.out.below ?_
      clear hK K' hS0
      have hS0 : Below w.heap.size w WX := HM.out.below
      go_simp
      refine hs_take (i := 8) (v := ?_) rfl rfl (by kernel_rfl) (by kernel_rfl) (by kernel_rfl) (fun _ _ _ h => h) (by rfl) hS0 ?_ ?_
      rotate_left
      · intro W hW
        go_simp
        try with_reducible rfl
      simp only [Act.put, List.setIfInBounds_toArray, List.set_cons_zero, List.set_cons_succ]
      refine hs_take (i := 9) (v := ?_) rfl rfl (by kernel_rfl) (by kernel_rfl) (by kernel_rfl) (fun _ _ _ h => h) (by rfl) hS0 ?_ ?_
      rotate_left
      · intro W hW
        go_simp
        try with_reducible rfl
      simp only [Act.put, List.setIfInBounds_toArray, List.set_cons_zero, List.set_cons_succ]
      refine wpAnyH_done (by kernel_rfl) ?_ _
      clear hS0
      go_wp2
      go_roundw
      case rel => exact ⟨b + d, by omega, by omega, rfl, HM⟩
      case measure => (simp only [intOf, Int.toNat_natCast]; omega)
set_option maxHeartbeats 4000000 in
theorem repeat_large (A : Addr) (c N : Nat) (w : World) (hA : Bytes w (some A) 1 [255]) (h1 : 1 ≤ N) (h2 : 8192 < N) (h3 : N ≤ 65536) :
    Calls Try.prog 23 #[.slice (some A) 1 c, .int .i64 (N : Int)] w fun e w' => ∃ v, e = .returned v ∧ Row w' w.heap.size v N (List.replicate N 255) ∧ Below w.heap.size w w' := by
  have cM := fun w => mul_one_any N w (by omega)
  have CM := Lib.hid cM
  have hnz : ¬ (N : Int) = 0 := by omega
  have hnn : ¬ (N : Int) < 0 := by omega
  have hwu : IntKind.u64.wrap (N : Int) = (N : Int) := by rw [IntKind.wrap_u64]; omega
  have hwi : IntKind.i64.wrap (N : Int) = (N : Int) := by rw [IntKind.wrap_i64]; omega
  have hmx : ¬ (9223372036854775807 : Int) < (N : Int) := by omega
  have h8 : (8192 : Int) < (N : Int) := by omega
  obtain ⟨cs, hrunM, hle, hmm⟩ := Lib.run_makeNoZero (P := Try.prog) w #[3] 22 5 Try.underlying22 N (by omega)
  have hcall : (callFunc 33 #[.int .i64 (N : Int)]).run Try.prog w = .ok (.value (.slice (some ⟨w.heap.size, 0, none⟩) N cs.size)) ((w.alloc (.cells cs 5)).drewN 2) := by
    rw [run_callFunc_extern Try.func33 (by kernel_rfl) (by kernel_rfl) (by kernel_rfl) (e := Extern.BytealgMakeNoZero.makeNoZero #[3] #[22]) (by kernel_rfl), hrunM]
    rfl
  clear hrunM hmm
  have i0 : (0 : Int) ≤ (N : Int) := by omega
  have i1 : (N : Int) ≤ (cs.size : Int) := by omega
  have B0 := Fill.new w cs N hle
  have hc1 := fun ty => B0.first (c := c) (ty := ty) (hA.below B0.below) h1
  have B1 : Hid (Fill w (((w.alloc (.cells cs 5)).drewN 2).setCells w.heap.size 0 (List.replicate 1 (.int .u8 255))) w.heap.size N (0 + 1)) := Lib.hid (B0.more 1 (by omega))
  generalize hWW : ((w.alloc (.cells cs 5)).drewN 2).setCells w.heap.size 0 (List.replicate 1 (.int .u8 255)) = WW at *
  have HN := Lib.hid (And.intro h1 (And.intro h2 h3))
  clear B0 hWW hA hle h1 h2 h3 cM
  go_enter Try.func23, Try.ntmps23
  go_wp2_with fail
  refine (CM.out _).mono ?_
  rintro e w1 ⟨rfl, rfl⟩
  go_wp2_with (at_builtin; refine Lib.wpList_copy_run _ rfl _ _ 22 22 rfl _ _ rfl rfl (hc1 _) ?_)
  go_loopw [10] (fun bv wr => ∃ b : Nat, 1 ≤ b ∧ b ≤ N ∧ bv = .int .i64 (b : Int) ∧ Hid (Fill w wr w.heap.size N b)) (fun bv _ => N - (intOf bv).toNat)
  case atStart => exact ⟨1, Nat.le_refl _, HN.out.1, rfl, B1⟩
  case round =>
    obtain ⟨b, hb1, hbN, rfl, HI⟩ := hrel
    clear hcall hc1 B1 hwu hwi hmx hnz hnn i1
    by_cases hb : b = N
    · subst hb
      have HR := Lib.hid (HI.out.row (Nat.le_trans HN.out.2.2 (by decide)))
      go_wp2
      go_ret
      exact ⟨_, rfl, HR.out, HI.out.below⟩
    · have hlt : (b : Int) < (N : Int) := by omega
      by_cases h88 : (b : Int) ≤ 8192
      · have hchb : b ≤ b := Nat.le_refl _
        have hch1 := hb1
        obtain ⟨d, hd⟩ : ∃ d, d = Nat.min b (N - b) := ⟨_, rfl⟩
        have hd1 : 1 ≤ d := by rw [hd]; exact Nat.le_min.2 ⟨hch1, by omega⟩
        have hd2 : d ≤ N - b := by rw [hd]; exact Nat.min_le_right _ _
        have HID := Lib.hid HI.out.drew
        have hcp := fun ty => HID.out.copy (cap := N) (cap2 := N - b) (ty := ty) hchb hd
        have HM := Lib.hid (HID.out.more d (by omega))
        have hbw := add_wrap b d (Nat.le_trans (Nat.le_trans (show b + d ≤ N by omega) HN.out.2.2) (by decide))
        have hdI : (d : Int) ≤ (N : Int) - (b : Int) := by omega
        have hchI : b ≤ N := by omega
        clear hd
        have hsl1 : ∀ W, (Instr.slice 22 (.slice (some ⟨w.heap.size, 0, none⟩) N N) (some (.int .i64 (b : Int))) none none).run Try.prog W = .ok (.slice (some ⟨w.heap.size, b, none⟩) (N - b) (N - b)) W := by
          intro W
          have hbp : ¬ b = 0 := by omega
          have hne : ¬ N = b := by omega
          simp [go_sem, sliced, Addr.add, hbp, hne, hbN]
          done
        have hsl2 : ∀ W, (Instr.slice 22 (.slice (some ⟨w.heap.size, 0, none⟩) N N) none (some (.int .i64 (b : Int))) none).run Try.prog W = .ok (.slice (some ⟨w.heap.size, 0, none⟩) b N) W := by
          intro W
          simp [go_sem, sliced, Addr.add, hchI]
          done
        generalize hWX : wr.drew.setCells w.heap.size b (List.replicate d (Value.int .u8 255)) = WX at *
        clear hWX
        go_wp2_with fail
        refine wp_region_held (S := fun W => Below w.heap.size w W) (by kernel_rfl) ?_
        have hS0 : Below w.heap.size w wr.drew := HID.out.below
        refine hs_take (i := 0) (v := ?_) rfl rfl (by kernel_rfl) (by kernel_rfl) (by kernel_rfl) (fun _ _ _ h => h) (by rfl) hS0 ?_ ?_
        rotate_left
        · intro W hW
          go_simp
          try with_reducible rfl
        simp only [Act.put, List.setIfInBounds_toArray, List.set_cons_zero, List.set_cons_succ]
        refine hs_take (i := 1) (v := ?_) rfl rfl (by kernel_rfl) (by kernel_rfl) (by kernel_rfl) (fun _ _ _ h => h) (by rfl) hS0 ?_ ?_
        rotate_left
        · intro W hW
          go_simp
          try with_reducible rfl
        simp only [Act.put, List.setIfInBounds_toArray, List.set_cons_zero, List.set_cons_succ]
        refine hs_take (i := 2) (v := ?_) rfl rfl (by kernel_rfl) (by kernel_rfl) (by kernel_rfl) (fun _ _ _ h => h) (by rfl) hS0 ?_ ?_
        rotate_left
        · intro W hW
          go_simp
          try with_reducible rfl
        simp only [Act.put, List.setIfInBounds_toArray, List.set_cons_zero, List.set_cons_succ]
        refine hs_take (i := 3) (v := ?_) rfl rfl (by kernel_rfl) (by kernel_rfl) (by kernel_rfl) (fun _ _ _ h => h) (by rfl) hS0 ?_ ?_
        rotate_left
        · intro W hW
          go_simp
          try with_reducible rfl
        simp only [Act.put, List.setIfInBounds_toArray, List.set_cons_zero, List.set_cons_succ]
        refine hs_take (i := 4) (v := ?_) rfl rfl (by kernel_rfl) (by kernel_rfl) (by kernel_rfl) (fun _ _ _ h => h) (by rfl) hS0 ?_ ?_
        rotate_left
        · intro W hW
          go_simp
          try with_reducible rfl
        simp only [Act.put, List.setIfInBounds_toArray, List.set_cons_zero, List.set_cons_succ]
        refine hs_take (i := 5) (v := ?_) rfl rfl (by kernel_rfl) (by kernel_rfl) (by kernel_rfl) (fun _ _ _ h => h) (by rfl) hS0 ?_ ?_
        rotate_left
        · intro W hW
          go_simp
          try with_reducible rfl
        simp only [Act.put, List.setIfInBounds_toArray, List.set_cons_zero, List.set_cons_succ]
        refine hs_take (i := 6) (v := ?_) rfl rfl (by kernel_rfl) (by kernel_rfl) (by kernel_rfl) (fun _ _ _ h => h) (by rfl) hS0 ?_ ?_
        rotate_left
        · intro W hW
          go_simp
          try with_reducible rfl
        simp only [Act.put, List.setIfInBounds_toArray, List.set_cons_zero, List.set_cons_succ]
        refine hs_call (i := 7) (by kernel_rfl) rfl (fun K' hK => ?_)
        refine hs_copy (by rfl) _ _ rfl _ _ rfl rfl (hcp _) ?_
        refine hK.out _ _ HM.out.below ?_
        clear hK K' hS0
        have hS0 : Below w.heap.size w WX := HM.out.below
        go_simp
        refine hs_take (i := 8) (v := ?_) rfl rfl (by kernel_rfl) (by kernel_rfl) (by kernel_rfl) (fun _ _ _ h => h) (by rfl) hS0 ?_ ?_
        rotate_left
        · intro W hW
          go_simp
          try with_reducible rfl
        simp only [Act.put, List.setIfInBounds_toArray, List.set_cons_zero, List.set_cons_succ]
        refine hs_take (i := 9) (v := ?_) rfl rfl (by kernel_rfl) (by kernel_rfl) (by kernel_rfl) (fun _ _ _ h => h) (by rfl) hS0 ?_ ?_
        rotate_left
        · intro W hW
          go_simp
          try with_reducible rfl
        simp only [Act.put, List.setIfInBounds_toArray, List.set_cons_zero, List.set_cons_succ]
        refine wpAnyH_done (by kernel_rfl) ?_ _
        clear hS0
        go_wp2
        go_roundw
        case rel => exact ⟨b + d, by omega, by omega, rfl, HM⟩
        case measure => (simp only [intOf, Int.toNat_natCast]; omega)
      · have hchb : 8192 ≤ b := by omega
        have hch1 : 1 ≤ 8192 := by decide
        obtain ⟨d, hd⟩ : ∃ d, d = Nat.min 8192 (N - b) := ⟨_, rfl⟩
        have hd1 : 1 ≤ d := by rw [hd]; exact Nat.le_min.2 ⟨hch1, by omega⟩
        have hd2 : d ≤ N - b := by rw [hd]; exact Nat.min_le_right _ _
        have HID := Lib.hid HI.out.drew
        have hcp := fun ty => HID.out.copy (cap := N) (cap2 := N - b) (ty := ty) hchb hd
        have HM := Lib.hid (HID.out.more d (by omega))
        have hbw := add_wrap b d (Nat.le_trans (Nat.le_trans (show b + d ≤ N by omega) HN.out.2.2) (by decide))
        have hdI : (d : Int) ≤ (N : Int) - (b : Int) := by omega
        have hchI : ¬ (N : Int) < 8192 := by omega
        clear hd
        have hsl1 : ∀ W, (Instr.slice 22 (.slice (some ⟨w.heap.size, 0, none⟩) N N) (some (.int .i64 (b : Int))) none none).run Try.prog W = .ok (.slice (some ⟨w.heap.size, b, none⟩) (N - b) (N - b)) W := by
          intro W
          have hbp : ¬ b = 0 := by omega
          have hne : ¬ N = b := by omega
          simp [go_sem, sliced, Addr.add, hbp, hne, hbN]
          done
        have hsl2 : ∀ W, (Instr.slice 22 (.slice (some ⟨w.heap.size, 0, none⟩) N N) none (some (.int .i64 8192)) none).run Try.prog W = .ok (.slice (some ⟨w.heap.size, 0, none⟩) 8192 N) W := by
          intro W
          simp [go_sem, sliced, Addr.add, hchI]
          done
        generalize hWX : wr.drew.setCells w.heap.size b (List.replicate d (Value.int .u8 255)) = WX at *
        clear hWX
        go_wp2_with fail
        refine wp_region_held (S := fun W => Below w.heap.size w W) (by kernel_rfl) ?_
        have hS0 : Below w.heap.size w wr.drew := HID.out.below
        refine hs_take (i := 0) (v := ?_) rfl rfl (by kernel_rfl) (by kernel_rfl) (by kernel_rfl) (fun _ _ _ h => h) (by rfl) hS0 ?_ ?_
        rotate_left
        · intro W hW
          go_simp
          try with_reducible rfl
        simp only [Act.put, List.setIfInBounds_toArray, List.set_cons_zero, List.set_cons_succ]
        refine hs_take (i := 1) (v := ?_) rfl rfl (by kernel_rfl) (by kernel_rfl) (by kernel_rfl) (fun _ _ _ h => h) (by rfl) hS0 ?_ ?_
        rotate_left
        · intro W hW
          go_simp
          try with_reducible rfl
        simp only [Act.put, List.setIfInBounds_toArray, List.set_cons_zero, List.set_cons_succ]
        refine hs_take (i := 2) (v := ?_) rfl rfl (by kernel_rfl) (by kernel_rfl) (by kernel_rfl) (fun _ _ _ h => h) (by rfl) hS0 ?_ ?_
        rotate_left
        · intro W hW
          go_simp
          try with_reducible rfl
        simp only [Act.put, List.setIfInBounds_toArray, List.set_cons_zero, List.set_cons_succ]
        refine hs_take (i := 3) (v := ?_) rfl rfl (by kernel_rfl) (by kernel_rfl) (by kernel_rfl) (fun _ _ _ h => h) (by rfl) hS0 ?_ ?_
        rotate_left
        · intro W hW
          go_simp
          try with_reducible rfl
        simp only [Act.put, List.setIfInBounds_toArray, List.set_cons_zero, List.set_cons_succ]
        refine hs_take (i := 4) (v := ?_) rfl rfl (by kernel_rfl) (by kernel_rfl) (by kernel_rfl) (fun _ _ _ h => h) (by rfl) hS0 ?_ ?_
        rotate_left
        · intro W hW
          go_simp
          try with_reducible rfl
        simp only [Act.put, List.setIfInBounds_toArray, List.set_cons_zero, List.set_cons_succ]
        refine hs_take (i := 5) (v := ?_) rfl rfl (by kernel_rfl) (by kernel_rfl) (by kernel_rfl) (fun _ _ _ h => h) (by rfl) hS0 ?_ ?_
        rotate_left
        · intro W hW
          go_simp
          try with_reducible rfl
        simp only [Act.put, List.setIfInBounds_toArray, List.set_cons_zero, List.set_cons_succ]
        refine hs_take (i := 6) (v := ?_) rfl rfl (by kernel_rfl) (by kernel_rfl) (by kernel_rfl) (fun _ _ _ h => h) (by rfl) hS0 ?_ ?_
        rotate_left
        · intro W hW
          go_simp
          try with_reducible rfl
        simp only [Act.put, List.setIfInBounds_toArray, List.set_cons_zero, List.set_cons_succ]
        refine hs_call (i := 7) (by kernel_rfl) rfl (fun K' hK => ?_)
        refine hs_copy (by rfl) _ _ rfl _ _ rfl rfl (hcp _) ?_
        refine hK.out _ _ HM.out.below ?_
        clear hK K' hS0
        have hS0 : Below w.heap.size w WX := HM.out.below
        go_simp
        refine hs_take (i := 8) (v := ?_) rfl rfl (by kernel_rfl) (by kernel_rfl) (by kernel_rfl) (fun _ _ _ h => h) (by rfl) hS0 ?_ ?_
        rotate_left
        · intro W hW
          go_simp
          try with_reducible rfl
        simp only [Act.put, List.setIfInBounds_toArray, List.set_cons_zero, List.set_cons_succ]
        refine hs_take (i := 9) (v := ?_) rfl rfl (by kernel_rfl) (by kernel_rfl) (by kernel_rfl) (fun _ _ _ h => h) (by rfl) hS0 ?_ ?_
        rotate_left
        · intro W hW
          go_simp
          try with_reducible rfl
        simp only [Act.put, List.setIfInBounds_toArray, List.set_cons_zero, List.set_cons_succ]
        refine wpAnyH_done (by kernel_rfl) ?_ _
        clear hS0
        go_wp2
        go_roundw
        case rel => exact ⟨b + d, by omega, by omega, rfl, HM⟩
        case measure => (simp only [intOf, Int.toNat_natCast]; omega)
theorem one_byte_at' (w : World) (n : Nat) (z : Int) (hn : w.heap.size = n) (h0 : 0 ≤ z ∧ z ≤ 255) : Bytes (w.alloc (.cells #[.int .u8 z] 5)) (some ⟨n, 0, none⟩) 1 [z] := by rw [← hn]; exact one_byte w z h0
theorem repeat_any (A : Addr) (c N : Nat) (w : World) (hA : Bytes w (some A) 1 [255]) (h1 : 1 ≤ N) (h3 : N ≤ 65536) :
    Calls Try.prog 23 #[.slice (some A) 1 c, .int .i64 (N : Int)] w fun e w' => ∃ v, e = .returned v ∧ Row w' w.heap.size v N (List.replicate N 255) ∧ Below w.heap.size w w' := by
  by_cases h2 : N ≤ 8192
  · exact repeat_small A c N w hA h1 h2 h3
  · exact repeat_large A c N w hA h1 (by omega) h3
set_option maxHeartbeats 1000000 in
theorem newE_lo (P k : Int) (w : World) (h1 : P < 512) :
    Calls Try.prog 10 #[.int .i64 P, .int .i64 k] w (GivesN 0 [] 9 w) := by
  have hr := Cs.new w 24 [.int .i64 0, .slice none 0 0]
  have r0 := hr.cell 0
  have r1 := hr.cell 1
  have g0 := hr.free 0
  have g1 := hr.free 1
  simp only [List.getElem?_cons_succ, List.getElem?_cons_zero] at r0 r1
  have HB0 := Lib.hid ((Below.refl w.heap.size w).alloc (Nat.le_refl _) (.cells #[.int .i64 0, .slice none 0 0] 24))
  have C1 := Lib.hid (fun w => isp_lo P w h1)
  clear hr
  go_enter Try.func10, Try.ntmps10
  go_wp2_with fail
  refine (C1.out _).mono ?_
  rintro e w1 ⟨rfl, rfl⟩
  go_wp2
  refine bodyPost_ret (v := .tuple #[.agg #[.int .i64 0, .slice none 0 0], .int .i64 9]) (by simp [results, Try.results10, go_sem, *]) rfl ?_
  exact ⟨none, 0, 0, rfl, ⟨rfl, fun z hz => by (cases hz), fun i hi => absurd hi (by omega)⟩, Nat.le_refl _, by omega, HB0.out⟩
set_option maxHeartbeats 1000000 in
theorem newE_hi (P k : Int) (w : World) (h1 : 8192 < P) :
    Calls Try.prog 10 #[.int .i64 P, .int .i64 k] w (GivesN 0 [] 9 w) := by
  have hr := Cs.new w 24 [.int .i64 0, .slice none 0 0]
  have r0 := hr.cell 0
  have r1 := hr.cell 1
  have g0 := hr.free 0
  have g1 := hr.free 1
  simp only [List.getElem?_cons_succ, List.getElem?_cons_zero] at r0 r1
  have HB0 := Lib.hid ((Below.refl w.heap.size w).alloc (Nat.le_refl _) (.cells #[.int .i64 0, .slice none 0 0] 24))
  have C1 := Lib.hid (fun w => isp_hi P w h1)
  clear hr
  go_enter Try.func10, Try.ntmps10
  go_wp2_with fail
  refine (C1.out _).mono ?_
  rintro e w1 ⟨rfl, rfl⟩
  go_wp2
  refine bodyPost_ret (v := .tuple #[.agg #[.int .i64 0, .slice none 0 0], .int .i64 9]) (by simp [results, Try.results10, go_sem, *]) rfl ?_
  exact ⟨none, 0, 0, rfl, ⟨rfl, fun z hz => by (cases hz), fun i hi => absurd hi (by omega)⟩, Nat.le_refl _, by omega, HB0.out⟩
set_option maxHeartbeats 1000000 in
theorem newE_few (P k : Int) (w : World) (h1 : 512 ≤ P) (h2 : P ≤ 8192) (h3 : k < 1) :
    Calls Try.prog 10 #[.int .i64 P, .int .i64 k] w (GivesN 0 [] 9 w) := by
  have hr := Cs.new w 24 [.int .i64 0, .slice none 0 0]
  have r0 := hr.cell 0
  have r1 := hr.cell 1
  have g0 := hr.free 0
  have g1 := hr.free 1
  simp only [List.getElem?_cons_succ, List.getElem?_cons_zero] at r0 r1
  have HB0 := Lib.hid ((Below.refl w.heap.size w).alloc (Nat.le_refl _) (.cells #[.int .i64 0, .slice none 0 0] 24))
  have C1 := Lib.hid (fun w => isp_ok P w h1 h2)
  clear hr
  go_enter Try.func10, Try.ntmps10
  go_wp2_with fail
  refine (C1.out _).mono ?_
  rintro e w1 ⟨rfl, rfl⟩
  go_wp2
  refine bodyPost_ret (v := .tuple #[.agg #[.int .i64 0, .slice none 0 0], .int .i64 9]) (by simp [results, Try.results10, go_sem, *]) rfl ?_
  exact ⟨none, 0, 0, rfl, ⟨rfl, fun z hz => by (cases hz), fun i hi => absurd hi (by omega)⟩, Nat.le_refl _, by omega, HB0.out⟩
set_option maxHeartbeats 1000000 in
theorem newE_many (P k : Int) (w : World) (h1 : 512 ≤ P) (h2 : P ≤ 8192) (h3 : ¬ k < 1) (h4 : 8 < k) :
    Calls Try.prog 10 #[.int .i64 P, .int .i64 k] w (GivesN 0 [] 9 w) := by
  have hr := Cs.new w 24 [.int .i64 0, .slice none 0 0]
  have r0 := hr.cell 0
  have r1 := hr.cell 1
  have g0 := hr.free 0
  have g1 := hr.free 1
  simp only [List.getElem?_cons_succ, List.getElem?_cons_zero] at r0 r1
  have HB0 := Lib.hid ((Below.refl w.heap.size w).alloc (Nat.le_refl _) (.cells #[.int .i64 0, .slice none 0 0] 24))
  have C1 := Lib.hid (fun w => isp_ok P w h1 h2)
  clear hr
  go_enter Try.func10, Try.ntmps10
  go_wp2_with fail
  refine (C1.out _).mono ?_
  rintro e w1 ⟨rfl, rfl⟩
  go_wp2
  refine bodyPost_ret (v := .tuple #[.agg #[.int .i64 0, .slice none 0 0], .int .i64 9]) (by simp [results, Try.results10, go_sem, *]) rfl ?_
  exact ⟨none, 0, 0, rfl, ⟨rfl, fun z hz => by (cases hz), fun i hi => absurd hi (by omega)⟩, Nat.le_refl _, by omega, HB0.out⟩
set_option maxHeartbeats 2000000 in
theorem newE_ok (p k N : Nat) (w : World) (h1 : 512 ≤ p) (h2 : p ≤ 8192) (h3 : 1 ≤ k) (h4 : k ≤ 8) (hN : p * k = N) :
    Calls Try.prog 10 #[.int .i64 (p : Int), .int .i64 (k : Int)] w (GivesN (p : Int) (List.replicate N 255) 0 w) := by
  have hNI : (p : Int) * (k : Int) = (N : Int) := by rw [← hN]; exact (Int.natCast_mul _ _).symm
  have hNl : N ≤ 65536 := by
    rw [← hN]
    exact Nat.mul_le_mul h2 h4
  have hN1 : 1 ≤ N := by
    rw [← hN]
    exact Nat.mul_pos (by omega) (by omega)
  have f3 : ¬ (k : Int) < 1 := by clear hNI; omega
  have f4 : ¬ (8 : Int) < (k : Int) := by clear hNI; omega
  have hr := Cs.new w 24 [.int .i64 0, .slice none 0 0]
  have hb0 := (Below.refl w.heap.size w).alloc (Nat.le_refl _) (.cells #[.int .i64 0, .slice none 0 0] 24)
  have hb1 := hb0.alloc (by simp) (.cells #[.int .u8 255] 5)
  have hX := one_byte_at' (w.alloc (.cells #[.int .i64 0, .slice none 0 0] 24)) (w.heap.size + 1) 255 (by simp) (by decide)
  have HR := Lib.hid (hr.grow (.cells #[.int .u8 255] 5))
  have HB := Lib.hid hb1
  have HX := Lib.hid hX
  have HSZ : Hid (w.heap.size < ((w.alloc (.cells #[.int .i64 0, .slice none 0 0] 24)).alloc (.cells #[.int .u8 255] 5)).heap.size) := Lib.hid (by simp; omega)
  have C1 := Lib.hid (fun w => isp_ok (p : Int) w (by omega) (by omega))
  have hwN := wrap_nat N (by omega)
  have HN := Lib.hid (And.intro hN1 hNl)
  clear hr hb0 hb1 hX h1 h2 h3 h4 hN hNl hN1
  go_enter Try.func10, Try.ntmps10
  go_wp2_with fail
  refine (C1.out _).mono ?_
  rintro e w1 ⟨rfl, rfl⟩
  go_wp2_with fail
  refine (repeat_any _ _ N _ HX.out HN.out.1 HN.out.2).mono ?_
  rintro e w1 ⟨v1, rfl, hr1, hb1⟩
  have hq := HR.out.below hb1 HSZ.out
  obtain ⟨A1, c1, rfl, hc1, hm1, hy1⟩ := hr1.bytes (ff_rng N)
  have r0 := hq.cell 0
  have r1 := hq.cell 1
  have g0 := hq.free 0
  have g1 := hq.free 1
  simp only [List.getElem?_cons_succ, List.getElem?_cons_zero] at r0 r1
  have HY := Lib.hid (hy1.setTwo (.int .i64 (p : Int)) (.slice A1 N c1) _ _ r0 r1 (fun z e => by cases e) (fun z e => by cases e))
  have HB2 := Lib.hid (HB.out.trans (hb1.mono HB.out.size))
  have HQ := Lib.hid (And.intro hc1 hm1)
  clear hr1 hb1 hq hc1 hm1 hy1
  go_wp2
  refine bodyPost_ret (v := .tuple #[.agg #[.int .i64 (p : Int), .slice A1 N c1], .int .i64 0]) (by simp [results, Try.results10, go_sem, *]) rfl ?_
  exact ⟨A1, N, c1, rfl, HY.out, HQ.out.1, HQ.out.2, (HB2.out.setCell (p := ⟨w.heap.size, 0, none⟩) (Nat.le_refl _) _).setCell (p := ⟨w.heap.size, 1, none⟩) (Nat.le_refl _) _⟩
theorem newE_all (P k : Int) (w : World) :
    Calls Try.prog 10 #[.int .i64 P, .int .i64 k] w (GivesN (ifE (newE P k) P 0) (ifE (newE P k) (List.replicate (P * k).toNat 255) []) (newE P k) w) := by
  by_cases h : P < 512 ∨ 8192 < P ∨ k < 1 ∨ 8 < k
  · have e : newE P k = 9 := by unfold newE; rw [if_pos h]
    rw [e]
    show Calls _ _ _ _ (GivesN 0 [] 9 w)
    by_cases h1 : P < 512
    · exact newE_lo P k w h1
    · by_cases h2 : 8192 < P
      · exact newE_hi P k w h2
      · by_cases h3 : k < 1
        · exact newE_few P k w (by omega) (by omega) h3
        · exact newE_many P k w (by omega) (by omega) h3 (by omega)
  · have e : newE P k = 0 := by unfold newE; rw [if_neg h]
    rw [e]
    obtain ⟨p, rfl⟩ := Int.eq_ofNat_of_zero_le (show 0 ≤ P by omega)
    obtain ⟨m, rfl⟩ := Int.eq_ofNat_of_zero_le (show 0 ≤ k by omega)
    have hx : ((p : Int) * (m : Int)).toNat = p * m := by rw [← Int.natCast_mul, Int.toNat_natCast]
    rw [hx]
    exact newE_ok p m (p * m) w (by omega) (by omega) (by omega) (by omega) rfl
end Go.Proofs.Ytgoajnljgbcmdaa
