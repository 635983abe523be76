/- The digits of a word; an array in memory; onetime.split. -/
import Derived.Test.YthgahjihgoiklaaSipR
namespace Go.Proofs.Ythgahjihgoiklaa
open Go.RowKit
set_option maxRecDepth 100000

def iv (l : List Int) : List Value := l.map (Value.int .i64)
theorem iv_app (a b : List Int) : iv (a ++ b) = iv a ++ iv b := by simp [iv]
theorem iv_len (a : List Int) : (iv a).length = a.length := by simp [iv]

/-- block g is an array with the cells vs -/
def Cs (w : World) (g : Nat) (t : TypeId) (vs : List Value) : Prop := w.heap[g]? = some (.cells vs.toArray t (0, 0))
theorem Cs.cell {w : World} {g : Nat} {t : TypeId} {vs : List Value} (h : Cs w g t vs) (i : Nat) : w.cell? ⟨g, i, none⟩ = vs[i]? := by
  unfold Cs at h
  simp [World.cell?, h]
theorem Cs.free {w : World} {g : Nat} {t : TypeId} {vs : List Value} (h : Cs w g t vs) (i : Nat) : w.frozen? ⟨g, i, none⟩ = false := by
  unfold Cs at h
  simp [World.frozen?, h]
theorem Cs.lt {w : World} {g : Nat} {t : TypeId} {vs : List Value} (h : Cs w g t vs) : g < w.heap.size := by
  rcases Nat.lt_or_ge g w.heap.size with h1 | h1
  · exact h1
  · unfold Cs at h; rw [Array.getElem?_eq_none h1] at h; cases h
theorem Cs.set_ {w : World} {g : Nat} {t : TypeId} {vs : List Value} (h : Cs w g t vs) (i : Nat) (v : Value) : Cs (w.setCell ⟨g, i, none⟩ v) g t (vs.set i v) := by
  unfold Cs at h ⊢
  simp [World.setCell, Array.getElem?_modify, h]
theorem Cs.below {w w' : World} {g B : Nat} {t : TypeId} {vs : List Value} (h : Cs w g t vs) (hb : Below B w w') (hg : g < B) : Cs w' g t vs := (hb.block g hg).trans h
theorem Cs.new (w : World) (t : TypeId) (vs : List Value) : Cs (w.alloc (.cells vs.toArray t)) w.heap.size t vs := heap_alloc_new w _
theorem Cs.far_set {w : World} {g g' : Nat} {t : TypeId} {vs : List Value} (h : Cs w g t vs) (i : Nat) (v : Value) (hne : g ≠ g') : Cs (w.setCell ⟨g', i, none⟩ v) g t vs :=
  (Below.heap_setCell w ⟨g', i, none⟩ v g hne).trans h
theorem Cs.drew {w : World} {g : Nat} {t : TypeId} {vs : List Value} (h : Cs w g t vs) : Cs w.drew g t vs := h

theorem Cs.setRow {w : World} {g : Nat} {t : TypeId} {vs : List Value} (h : Cs w g t vs) (us : List Value) : Cs (w.setRow g us.toArray) g t us := setRow_heap w g _ _ t _ h
theorem heap_setRow (w : World) (g : Nat) (c : Array Value) (k : Nat) (h : k ≠ g) : (w.setRow g c).heap[k]? = w.heap[k]? := by
  simp only [World.setRow, Array.getElem?_modify]
  rw [if_neg (fun e => h e.symm)]
theorem Cs.other {w : World} {g g' : Nat} {t : TypeId} {vs : List Value} (h : Cs w g t vs) (c : Array Value) (hne : g ≠ g') : Cs (w.setRow g' c) g t vs := (heap_setRow w g' c g hne).trans h
theorem below_setRow {B : Nat} {u w : World} (hb : Below B u w) (g : Nat) (c : Array Value) (hg : B ≤ g) : Below B u (w.setRow g c) :=
  hb.trans ⟨rfl, rfl, rfl, by simp [World.setRow], fun k hk => heap_setRow w g c k (by omega)⟩

theorem wpList_load_cs {ops : Array Oper} {rest : List Oper} {o : Oper} {a : Act} {Q : Exit → Act → World → Prop} {w : World} (hgd : o.guard = none) (ty : TypeId) (x : Operand) (ho : o.op = .load ty x)
    (g : Nat) (hx : a.eval x = .pointer (some ⟨g, 0, none⟩)) (t : TypeId) (vs : List Value) (hg : Cs w g t vs) (n : Nat) (e : TypeId)
    (hu : Try.prog.underlying ty = some (.array n e)) (hi : (Try.prog.info? ty).map (·.size) = some vs.length)
    (h : wpList Try.prog ops Q rest (a.put o.dst (.agg vs.toArray)) w) : wpList Try.prog ops Q (o :: rest) a w :=
  wpList_load_row hgd ty x ho g hx t vs.toArray (0, 0) _ hg hu rfl (by rw [hi]; simp) h
theorem wpList_store_cs {ops : Array Oper} {rest : List Oper} {o : Oper} {a : Act} {Q : Exit → Act → World → Prop} {w : World} (hgd : o.guard = none) (ty : TypeId) (x y : Operand) (ho : o.op = .store ty x y)
    (g : Nat) (hx : a.eval x = .pointer (some ⟨g, 0, none⟩)) (t : TypeId) (vs us : List Value) (hy : a.eval y = .agg us.toArray) (hg : Cs w g t vs) 
    (hi : (Try.prog.info? ty).map (·.size) = some us.length) (hl : vs.length = us.length) (h1 : us.toArray.all (·.oneCell') = true)
    (h : wpList Try.prog ops Q rest (a.put o.dst undef) (w.setRow g us.toArray)) : wpList Try.prog ops Q (o :: rest) a w := by
  refine wpList_plain hgd fun K hK => ?_
  unfold Oper.wp execOp
  simp only [ho, hx, hy, Instr.storeAt, Instr.sureAddr, Sem.run_bind, Sem.run_pure, Result.andThen_ok, run_storeVar_row w g t ty vs.toArray us.toArray hg (by rw [hi]; simp) (by simpa using hl) h1]
  exact hK _ _ h
theorem iv_one (l : List Int) : (iv l).toArray.all (·.oneCell') = true := by
  rw [Array.all_eq_true_iff_forall_mem]
  intro u hu
  simp only [iv, List.mem_toArray, List.mem_map] at hu
  obtain ⟨z, _, rfl⟩ := hu
  rfl

/-- the first k of n as f says, the others z -/
def fillTo {α : Type} (z : α) (n : Nat) (f : Nat → α) (k : Nat) : List α := (List.range n).map fun j => if j < k then f j else z
theorem fillTo_len {α : Type} (z : α) (n : Nat) (f : Nat → α) (k : Nat) : (fillTo z n f k).length = n := by simp [fillTo]
theorem fillTo_at {α : Type} (z : α) (n : Nat) (f : Nat → α) (k j : Nat) (hj : j < n) : (fillTo z n f k)[j]? = some (if j < k then f j else z) := by
  simp [fillTo, List.getElem?_range hj]
theorem fillTo_set {α : Type} (z : α) (n : Nat) (f : Nat → α) (k : Nat) (hk : k < n) : (fillTo z n f k).set k (f k) = fillTo z n f (k + 1) := by
  apply List.ext_getElem?
  intro j
  rcases Nat.lt_or_ge j n with hj | hj
  · rw [List.getElem?_set, fillTo_at _ _ _ _ _ hj, fillTo_at _ _ _ _ _ hj, fillTo_len]
    by_cases e : k = j
    · subst e; simp [hk]
    · rw [if_neg e]
      have : (j < k) = (j < k + 1) := by apply propext; omega
      simp [this]
  · rw [List.getElem?_eq_none (by rw [List.length_set, fillTo_len]; exact hj), List.getElem?_eq_none (by rw [fillTo_len]; exact hj)]
theorem fillTo_all {α : Type} (z : α) (n : Nat) (f : Nat → α) : fillTo z n f n = (List.range n).map f := by
  apply List.map_congr_left
  intro j hj
  rw [if_pos (by simpa using hj)]

/-- hexadecimal digit k of a word, the most significant one first -/
def hexd (m : BitVec 64) (k : Nat) : Int := val m / 2 ^ (4 * (15 - k)) % 16
theorem hexd_rng (m : BitVec 64) (k : Nat) : 0 ≤ hexd m k ∧ hexd m k ≤ 15 := by unfold hexd; omega
def chkTo (m : BitVec 64) : Nat → Int
  | 0 => 0
  | k + 1 => chkTo m k + (15 - hexd m k)
theorem val_and (x y : BitVec 64) : bits .and .u64 (val x) (val y) = val (x &&& y) := by
  show IntKind.u64.wrap ((BitVec.ofInt 64 (val x) &&& BitVec.ofInt 64 (val y)).toNat : Int) = _
  rw [ofInt_val, ofInt_val, IntKind.wrap_u64]
  have := (x &&& y).isLt
  unfold val; omega
theorem and15 (x : BitVec 64) : bits .and .u64 (val x) 15 = val x % 16 := by
  rw [show (15 : Int) = val 15#64 from rfl, val_and]
  unfold val
  rw [BitVec.toNat_and, show (15#64).toNat = 2 ^ 4 - 1 from rfl, Nat.and_two_pow_sub_one_eq_mod]
  rfl

theorem chkTo_rng (m : BitVec 64) : ∀ k : Nat, 0 ≤ chkTo m k ∧ chkTo m k ≤ 15 * (k : Int)
  | 0 => ⟨Int.le_refl _, Int.le_refl _⟩
  | k + 1 => by
    have := chkTo_rng m k
    have := hexd_rng m k
    simp only [chkTo]
    omega
def dig (m : BitVec 64) (k : Nat) : Int := if k < 16 then hexd m k else if k = 16 then chkTo m 16 / 16 else chkTo m 16 % 16
theorem dig_rng (m : BitVec 64) (k : Nat) : 0 ≤ dig m k ∧ dig m k ≤ 15 := by
  have := hexd_rng m k
  have := chkTo_rng m 16
  unfold dig
  split
  · assumption
  · split <;> omega
def digits (m : BitVec 64) : List Int := (List.range 18).map (dig m)

theorem dig_eq (m : BitVec 64) (k : Nat) (hk : k < 16) : wrap64 (bits .and .u64 (val m / 2 ^ (4 * (15 - k))) 15) = dig m k := by
  rw [val_shr, and15, ← val_shr]
  unfold dig
  rw [if_pos hk]
  have := hexd_rng m k
  unfold hexd at this ⊢
  unfold wrap64
  omega
theorem dig_lt (m : BitVec 64) (k : Nat) (hk : k < 16) : dig m k = hexd m k := if_pos hk
theorem wrap_chk (m : BitVec 64) (k : Nat) (hk : k < 16) : wrap64 (chkTo m k + wrap64 (15 - hexd m k)) = chkTo m (k + 1) := by
  have := hexd_rng m k
  have := chkTo_rng m k
  simp only [chkTo]
  unfold wrap64
  omega
theorem iv_set (l : List Int) (i : Nat) (x : Int) : iv (l.set i x) = (iv l).set i (.int .i64 x) := by simp [iv, List.map_set]

theorem fin_cs {w : World} {g : Nat} {t : TypeId} {m : BitVec 64} (h : Cs w g t (iv (fillTo 0 18 (dig m) 16))) :
    Cs ((w.setCell ⟨g, 16, none⟩ (.int .i64 (chkTo m 16 / 16))).setCell ⟨g, 17, none⟩ (.int .i64 (chkTo m 16 % 16))) g t (iv (digits m)) := by
  have h2 := (h.set_ 16 (.int .i64 (dig m 16))).set_ 17 (.int .i64 (dig m 17))
  rw [← iv_set, ← iv_set, fillTo_set _ _ _ _ (by omega), fillTo_set _ _ _ _ (by omega), fillTo_all] at h2
  exact h2
theorem digits_len (m : BitVec 64) : (digits m).length = 18 := by simp [digits]
theorem size_digits : (Try.prog.info? 75).map (·.size) = some 18 := by kernel_rfl

theorem two_arr {P : Program} {code : Code} {Q : Exit → Act → World → Prop} {a : Act} {w : World} (t : TypeId) (vs : List Value)
    (h : ∀ W, Cs W w.heap.size t vs → Cs W (w.heap.size + 1) t vs → Below w.heap.size w W → Code.wp P code Q a W) :
    Code.wp P code Q a ((w.alloc (.cells vs.toArray t)).alloc (.cells vs.toArray t)) := by
  refine h _ ?_ ?_ (((Below.refl _ _).alloc (Nat.le_refl _) _).alloc (by simp) _)
  · exact (Cs.new w t vs).below ((Below.refl (w.heap.size + 1) _).alloc (by simp) _) (by omega)
  · have := Cs.new (w.alloc (.cells vs.toArray t)) t vs
    have e : (w.alloc (.cells vs.toArray t)).heap.size = w.heap.size + 1 := by simp
    rw [e] at this
    exact this
theorem cs_world {P : Program} {code : Code} {Q : Exit → Act → World → Prop} {a : Act} {W w0 : World} {R D : Nat} {t : TypeId} {us vs vs' : List Value} (i : Nat) (v : Value) (hR : Cs W R t us) (hD : Cs W D t vs) (hne : R ≠ D) (hB : Below R w0 W) (hRD : R ≤ D)
    (he : vs.set i v = vs') (h : ∀ W', Cs W' R t us → Cs W' D t vs' → Below R w0 W' → Code.wp P code Q a W') : Code.wp P code Q a (W.setCell ⟨D, i, none⟩ v) := by
  subst he
  exact h _ ((Below.heap_setCell W ⟨D, i, none⟩ v R hne).trans hR) (hD.set_ i v) (hB.setCell hRD v)

set_option maxHeartbeats 1000000 in
theorem split_any (m : BitVec 64) (w : World) :
    Calls Try.prog 50 #[.int .u64 (val m)] w fun e w' => e = .returned (.agg (iv (digits m)).toArray) ∧ Below w.heap.size w w' := by
  go_enter Try.func50, Try.ntmps50
  go_wp2
  refine two_arr 75 (iv (fillTo 0 18 (dig m) 0)) ?_
  intro W hR hD hB
  have HR := Lib.hid hR
  have HD := Lib.hid hD
  have HB := Lib.hid hB
  clear hR hD hB
  go_loopw [4, 6] (fun s i wr => ∃ k : Nat, k ≤ 16 ∧ i = .int .i64 k ∧ s = .int .i64 (chkTo m k) ∧ Cs wr w.heap.size 75 (iv (fillTo 0 18 (dig m) 0)) ∧ Cs wr (w.heap.size + 1) 75 (iv (fillTo 0 18 (dig m) k)) ∧ Below w.heap.size w wr) (fun _ i _ => 16 - (intOf i).toNat)
  case atStart => exact ⟨0, by omega, rfl, rfl, HR.out, HD.out, HB.out⟩
  case round =>
    obtain ⟨k, hk, rfl, rfl, hR, hD, hB⟩ := hrel
    have HR := Lib.hid hR
    have HD := Lib.hid hD
    have HB := Lib.hid hB
    have hc := hD.cell k
    have hf := hD.free k
    rw [iv, List.getElem?_map, fillTo_at _ _ _ _ _ (by omega)] at hc
    simp only [Option.map_some] at hc
    clear hR hD hB
    have hcr := chkTo_rng m k
    by_cases hlt : k < 16
    · go_wp2
      rw [dig_eq m k hlt]
      go_roundw
      case rel => exact ⟨k + 1, by omega, by go_num, by rw [dig_lt m k hlt, wrap_chk m k hlt], (Below.heap_setCell wr ⟨w.heap.size + 1, k, none⟩ _ w.heap.size (by simp)).trans HR.out, by have h := HD.out.set_ k (.int .i64 (dig m k)); rw [← iv_set, fillTo_set _ _ _ _ (by omega)] at h; exact h, HB.out.setCell (by simp) _⟩
      case measure => (simp [intOf] <;> omega)
    · have hk16 : k = 16 := by omega
      subst hk16
      have hR2 := (HR.out.far_set (g' := w.heap.size + 1) 16 (.int .i64 (chkTo m 16 / 16)) (by omega)).far_set (g' := w.heap.size + 1) 17 (.int .i64 (chkTo m 16 % 16)) (by omega)
      have HR2 := Lib.hid hR2
      clear hR2
      have hd16 := HD.out.cell 16
      have hf17 := HD.out.free 17
      have hd17 := HD.out.cell 17
      rw [iv, List.getElem?_map, fillTo_at _ _ _ _ _ (by omega)] at hd16 hd17
      simp only [Option.map_some] at hd16 hd17
      go_wp2_with (first
        | (refine wpList_load_cs (o := ⟨_, .load _ _, _, _, _, _⟩) rfl _ _ rfl _ rfl _ _ (fin_cs HD.out) 18 3 Try.underlying75 (by rw [size_digits, iv_len, digits_len]) ?_)
        | (refine wpList_store_cs (o := ⟨_, .store _ _ _, _, _, _, _⟩) rfl _ _ _ rfl _ rfl _ _ _ rfl HR2.out (by rw [size_digits, iv_len, digits_len]) (by rw [iv_len, iv_len, digits_len, fillTo_len]) (iv_one _) ?_)
        | fail)
      refine bodyPost_ret (v := .agg (iv (digits m)).toArray) ?_ rfl ⟨rfl, ?_⟩
      · exact results_cell_row Try.results50 _ _ w.heap.size 75 _ (0, 0) _ rfl (HR2.out.setRow _) Try.underlying75 rfl (by rw [size_digits]; simp [iv_len, digits_len])
      · exact below_setRow ((HB.out.setCell (by simp) _).setCell (by simp) _) _ _ (Nat.le_refl _)
end Go.Proofs.Ythgahjihgoiklaa
