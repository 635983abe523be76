/- The public word of values in an array. -/
import Derived.Test.YthgahjihgoiklaaOtD
namespace Go.Proofs.Ythgahjihgoiklaa
open Go.RowKit
set_option maxRecDepth 100000

theorem box_world {P : Program} {code : Code} {Q : Exit → Act → World → Prop} {a : Act} {w : World} (t t' : TypeId) (vs us : List Value) (C D : Array Value) (hC : C = vs.toArray) (hD : D = us.toArray)
    (h : ∀ W, Cs W w.heap.size t vs → Cs W (w.heap.size + 1) t' us → Below w.heap.size w W → Code.wp P code Q a W) :
    Code.wp P code Q a ((w.alloc (.cells C t)).alloc (.cells D t')) := by
  subst hC
  subst hD
  refine h _ ?_ ?_ (((Below.refl _ _).alloc (Nat.le_refl _) _).alloc (by simp) _)
  · exact (Cs.new w t vs).below ((Below.refl (w.heap.size + 1) _).alloc (by simp) _) (by omega)
  · have := Cs.new (w.alloc (.cells vs.toArray t)) t' us
    have e : (w.alloc (.cells vs.toArray t)).heap.size = w.heap.size + 1 := by simp
    rw [e] at this
    exact this
theorem box_world' {P : Program} {code : Code} {Q : Exit → Act → World → Prop} {a : Act} {w : World} (t t' : TypeId) (vs us us' : List Value) (C D : Array Value) (hC : C = vs.toArray) (hD : D = us.toArray)
    (h : ∀ W, Cs W w.heap.size t vs → Cs W (w.heap.size + 1) t' us' → Below w.heap.size w W → Code.wp P code Q a W) :
    Code.wp P code Q a (((w.alloc (.cells C t)).alloc (.cells D t')).setRow (w.heap.size + 1) us'.toArray) := by
  subst hC
  subst hD
  have hb := ((Below.refl _ w).alloc (Nat.le_refl _) (.cells vs.toArray t)).alloc (by simp) (.cells us.toArray t')
  refine h _ ?_ ?_ (below_setRow hb _ _ (Nat.le_succ _))
  · exact ((Cs.new w t vs).below ((Below.refl (w.heap.size + 1) _).alloc (by simp) (.cells us.toArray t')) (by omega)).other _ (by omega)
  · have := Cs.new (w.alloc (.cells vs.toArray t)) t' us
    have e : (w.alloc (.cells vs.toArray t)).heap.size = w.heap.size + 1 := by simp
    rw [e] at this
    exact this.setRow us'
theorem Cs.new2 (w : World) (o : Obj) (t : TypeId) (vs : List Value) : Cs ((w.alloc o).alloc (.cells vs.toArray t)) (w.heap.size + 1) t vs := by
  have := Cs.new (w.alloc o) t vs
  have e : (w.alloc o).heap.size = w.heap.size + 1 := by simp
  rw [e] at this
  exact this
theorem size19 : (Try.prog.info? 87).map (·.size) = some 19 := by kernel_rfl
theorem one19 (z : Int) (l : List (BitVec 64)) : (Value.int .u64 z :: wv l).toArray.all (·.oneCell') = true := by
  rw [Array.all_eq_true_iff_forall_mem]
  intro u hu
  rcases List.mem_cons.1 (by simpa using hu) with rfl | h
  · rfl
  · exact wv_one l u h
theorem copy_words {W : World} {g d : Nat} {t t' : TypeId} {x : BitVec 64} {ws us : List (BitVec 64)} (hg : Cs W g t (wv ws)) (hd : Cs W d t' (wv (x :: us))) (h1 : ws.length = 18) (h2 : us.length = 18) (ty : TypeId) :
    (Builtin.copy_ #[30, 30] ty #[.slice (some ⟨d, 1, none⟩) 18 18, .slice (some ⟨g, 0, none⟩) 18 18]).run Try.prog W = .ok (.int .i64 18) (W.setRow d (wv (x :: ws)).toArray) := by
  have h := run_copy_row (P := Try.prog) W 30 30 ty 22 d 1 18 18 ⟨g, 0, none⟩ 18 18 (wv (x :: us)).toArray t' (wv ws) Try.underlying30 (by kernel_rfl) hd (by rw [wv_len, h1]; rfl)
    (fun j v hv => by rw [addr_add, hg.cell, hv]) (by simp [wv_len, h1, h2]) (wv_one ws)
  rw [h]
  congr 1
  · rw [wv_len, h1]; rfl
  · congr 2
    have hn : List.drop (1 + (wv ws).length) (wv (x :: us)) = [] := List.drop_eq_nil_of_le (by simp [wv_len, h1, h2])
    simp only [hn, List.append_nil]
    rfl

set_option maxHeartbeats 1000000 in
theorem public_any (l : Int) (ws : List (BitVec 64)) (hws : ws.length = 18) (w : World) :
    Calls Try.prog 56 #[.agg (wv ws).toArray, .int .i64 l] w fun e w' => e = .returned (.int .u64 (val (pubF l ws))) ∧ Below w.heap.size w w' := by
  have hC : ∃ C, C = (wv ws).toArray := ⟨_, rfl⟩
  obtain ⟨C, hC⟩ := hC
  rw [← hC]
  have HC := Lib.hid hC
  clear hC
  go_enter Try.func56, Try.ntmps56
  go_wp2_with (first
    | (refine wpList_store_cs (o := ⟨_, .store _ _ _, _, _, _, _⟩) rfl _ _ _ rfl _ rfl _ (wv (List.replicate 19 0#64)) (.int .u64 (IntKind.u64.wrap l) :: wv (List.replicate 18 0#64)) rfl (Cs.new2 w (.cells C 73) 87 (wv (List.replicate 19 0#64))) size19 rfl (one19 _ _) ?_)
    | fail)
  rw [val_wrap]
  refine box_world' 73 87 (wv ws) (wv (List.replicate 19 0#64)) (wv (BitVec.ofInt 64 l :: List.replicate 18 0#64)) C _ HC.out rfl ?_
  intro W hg hd hb
  have hcp := copy_words (W := W.drew) hg hd hws rfl 3
  have HG := Lib.hid hg
  have HD := Lib.hid hd
  have HB := Lib.hid hb
  clear hg hd hb
  go_region
  have hW := Cs.setRow (w := W.drew) HD.out (wv (BitVec.ofInt 64 l :: ws))
  have hB := below_setRow (w := W.drew) HB.out.drew (w.heap.size + 1) (wv (BitVec.ofInt 64 l :: ws)).toArray (Nat.le_succ _)
  have hws' := Ws.of_cs hW
  rw [List.length_cons, hws] at hws'
  have hsz := hB.size
  go_wp2_with fail
  refine (words_any _ 19 19 _ _ hws' (by omega)).mono ?_
  rintro e w1 ⟨v1, rfl, ho1, hb1⟩
  obtain ⟨A1, cp1, rfl, h1, h2, hB1⟩ := own_bytes ho1 (wsBytes_rng _)
  have HB1 := Lib.hid (hB.trans (hb1.mono hsz))
  clear hcp hW hB hws' ho1 hb1
  go_wp2_with fail
  refine (hash_any 2 A1 _ cp1 _ _ hB1 h1 h2).mono ?_
  rintro e w2 ⟨rfl, hb2⟩
  go_wp2
  go_ret
  exact ⟨rfl, HB1.out.trans (hb2.mono HB1.out.size)⟩
end Go.Proofs.Ythgahjihgoiklaa
