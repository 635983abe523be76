import Derived.Test.YtepinmeidjlmmaaDoorF7
import Derived.Test.YtepinmeidjlmmaaDoorD2
import Derived.Deep.Slices
namespace Go.Proofs.YtepinmeidjlmmaaDoor
open Go.ChangeShapes Go.WideShapes Go.ChangeAt Go.RowKit Go.Deep

set_option maxRecDepth 100000 in
set_option maxHeartbeats 400000 in
theorem light0 (a : Option Addr) (cap : Nat) (w : World) : Calls Tryd.prog 14 #[.slice a 0 cap] w fun e w' => e = .returned (.bool true) ∧ w = w' := by
  go_enter Tryd.func14, Tryd.ntmps14
  go_wp2_with fail
  refine wp_loop_rounds 1 ?_
  rw [rounds_succ]
  go_wp2
  go_ret
  exact ⟨rfl, rfl⟩

set_option maxRecDepth 100000 in
set_option maxHeartbeats 1000000 in
theorem valid0 (a : Option Addr) (cap : Nat) (w : World) : Calls Tryd.prog 18 #[.slice a 0 cap] w fun e w' => e = .returned (.int .i64 1) ∧ Below w.heap.size w w' := by
  have HN0 : Hid (nestAt (w.alloc (.cells #[.int .i64 0, .slice none 0 0] 68)) (w.heap.size + 1) w.heap.size 0 [] (.slice none 0 0)) :=
    ⟨by simp, by simp, by simp, by simp, World.ownsRow_nil _ _ _ _, by omega, by simp, by simp, by omega, by simp⟩
  have HB0 := Lib.hid ((Below.refl w.heap.size w).alloc (Nat.le_refl _) (.cells #[.int .i64 0, .slice none 0 0] 68))
  go_enter Tryd.func18, Tryd.ntmps18
  go_wp2_with fail
  go_loopw [9] (fun i wr => i = .int .i64 0 ∧ nestAt wr (w.heap.size + 1) w.heap.size 0 [] (.slice none 0 0) ∧ Below w.heap.size w wr) (fun _ _ => 0)
  case atStart => exact ⟨rfl, HN0.out, HB0.out⟩
  case round =>
    obtain ⟨rfl, hn, hb⟩ := hrel
    have HN := Lib.hid hn
    have HB := Lib.hid hb
    clear hn hb
    have hcb : compB 0 [] = false := rfl
    go_wp2_with (go_at_call 41; refine (complete_any _ HN.out).mono ?_; rintro e w' ⟨rfl, rfl⟩)
    go_ret
    exact ⟨rfl, HB.out⟩

set_option maxRecDepth 100000 in
set_option maxHeartbeats 1000000 in
theorem encode_bad_of (v : Value) (E : Int) (w : World) (hV : Calls Tryd.prog 18 #[v] w fun e w' => e = .returned (.int .i64 E) ∧ Below w.heap.size w w') (hz : E ≠ 0) :
    Calls Tryd.prog 16 #[v] w fun e w' => e = .returned (.tuple #[.slice none 0 0, .int .i64 E]) ∧ Below w.heap.size w w' := by
  have HV := Lib.hid hV
  have hzb : (E != 0) = true := by simpa using hz
  clear hV hz
  go_enter Tryd.func16, Tryd.ntmps16
  go_wp2_with (go_at_call 18; refine HV.out.mono ?_; rintro e w1 ⟨rfl, hb1⟩)
  go_ret2
  exact ⟨rfl, hb1⟩
set_option maxRecDepth 100000 in
set_option maxHeartbeats 1000000 in
theorem encodeR_bad_of (v : Value) (E : Int) (w : World) (hV : Calls Tryd.prog 19 #[v] w fun e w' => e = .returned (.int .i64 E) ∧ Below w.heap.size w w') (hz : E ≠ 0) :
    Calls Tryd.prog 17 #[v] w fun e w' => e = .returned (.tuple #[.slice none 0 0, .int .i64 E]) ∧ Below w.heap.size w w' := by
  have HV := Lib.hid hV
  have hzb : (E != 0) = true := by simpa using hz
  clear hV hz
  go_enter Tryd.func17, Tryd.ntmps17
  go_wp2_with (go_at_call 19; refine HV.out.mono ?_; rintro e w1 ⟨rfl, hb1⟩)
  go_ret2
  exact ⟨rfl, hb1⟩

theorem validR0 (a : Option Addr) (cap : Nat) (w : World) : Calls Tryd.prog 19 #[.slice a 0 cap] w fun e w' => e = .returned (.int .i64 1) ∧ Below w.heap.size w w' :=
  validR_of (0, 1) 0 a cap w (walk_end a 0 cap 0 0 false ⟨#[]⟩ w (Nat.le_refl _))

theorem validates_empty (a : Option Addr) (cap : Nat) (w : World) (ht : Tabs w) : Calls Tryd.prog 3 #[.slice a 0 cap] w fun e w' => e = .returned (.bool true) ∧ Below w.heap.size w w' :=
  validates_bad _ 1 w (by omega) (light0 a cap w) (fun W hW => awake_any W (ht.later hW)) (fun W _ => encode_bad_of _ 1 W (valid0 a cap W) (by omega)) (fun W _ => encodeR_bad_of _ 1 W (validR0 a cap W) (by omega)) (fun W _ => valid0 a cap W) (fun W _ => validR0 a cap W)

set_option maxRecDepth 100000
theorem tryd_cells58 : Tryd.prog.cellsOf 58 = 3 := by kernel_rfl
theorem tryd_cells3 : Tryd.prog.cellsOf 3 = 1 := by kernel_rfl
theorem tryd_cells45 : Tryd.prog.cellsOf 45 = 1 := by kernel_rfl
theorem tryd_cells9 : Tryd.prog.cellsOf 9 = 1 := by kernel_rfl

theorem add_add (b off i j : Nat) : ((⟨b, off, none⟩ : Addr).add i).add j = ⟨b, off + i + j, none⟩ := by
  unfold Addr.add
  split <;> split <;> simp_all [Nat.add_assoc]

/-- the three cells of an item -/
theorem item_cells {H : Type} {enc : TypeId × Value → H} {W : World} {base : Nat} {sp : Nat → Bool} {held : Bool} {fuel : Nat} {cs : List Value} {x : DataW H × List MemPlace} (h : DataW.trod enc Tryd.prog W base sp held fuel 58 cs = some x) :
    ∃ (k n : Int) (d : ByteArray), cs = [.int .i64 k, .int .u64 n, .string d] ∧ 0 ≤ n ∧ d.size ≤ maxLen := by
  obtain ⟨xs, m, rfl, _, hl, hxl, hall⟩ := DataW.trod_struct Tryd.underlying58 h
  rw [tryd_cells58] at hl
  match cs, hl with
  | [c0, c1, c2], _ =>
    have h0 : DataW.trod enc Tryd.prog W base sp held m 3 (([c0, c1, c2].drop 0).take (Tryd.prog.cellsOf 3)) = xs[0]? := hall 0 _ rfl
    have h1 : DataW.trod enc Tryd.prog W base sp held m 45 (([c0, c1, c2].drop 1).take (Tryd.prog.cellsOf 45)) = xs[1]? := hall 1 _ rfl
    have h2 : DataW.trod enc Tryd.prog W base sp held m 9 (([c0, c1, c2].drop 2).take (Tryd.prog.cellsOf 9)) = xs[2]? := hall 2 _ rfl
    rw [tryd_cells3] at h0
    rw [tryd_cells45] at h1
    rw [tryd_cells9] at h2
    have l0 : 0 < xs.length := by rw [hxl]; decide
    have l1 : 1 < xs.length := by rw [hxl]; decide
    have l2 : 2 < xs.length := by rw [hxl]; decide
    rw [List.getElem?_eq_getElem l0] at h0
    rw [List.getElem?_eq_getElem l1] at h1
    rw [List.getElem?_eq_getElem l2] at h2
    obtain ⟨k, e0, _, _⟩ := DataW.trod_int Tryd.underlying3 h0
    obtain ⟨n, e1, _, wn⟩ := DataW.trod_int Tryd.underlying45 h1
    obtain ⟨d, e2, _, hd⟩ := DataW.trod_string Tryd.underlying9 h2
    simp at e0 e1 e2
    subst e0 e1 e2
    exact ⟨k, n, d, rfl, (u64_of_wf wn).1, hd⟩

/-- a []api.Item argument, opened -/
theorem open_items {H : Type} {enc : TypeId × Value → H} {W : World} {b0 base : Nat} {r : Reach} {v : Value} {d : DataW H} {ps : List MemPlace} (hval : Value.okWide Tryd.prog W r b0 22 v) (hd : DataW.Trod enc Tryd.prog W base (fun _ => true) true 22 v d ps) :
    ∃ (a : Option Addr) (len cap : Nat), v = .slice a len cap ∧ (0 < len → len ≤ 1000 → ∃ l : List It, l.length = len ∧ ItemsAt W W.heap.size v l) := by
  obtain ⟨a0, len, cap, rfl⟩ := okWide_slice Tryd.underlying22 hval
  obtain ⟨fuel, hf⟩ := hd
  refine ⟨a0, len, cap, rfl, fun h0 h1 => ?_⟩
  rcases open_slice Tryd.underlying22 hf with ⟨hcs, hx⟩ | ⟨a, len', cap', m, n, D, Pl, hcs, _, hl, hm, hmm, hx, hcell⟩
  · simp [Value.cells] at hcs
    omega
  · simp [Value.cells] at hcs
    obtain ⟨rfl, rfl, rfl⟩ := hcs
    simp only [if_true] at hmm
    subst hmm
    rw [tryd_cells58] at hcell
    have hsp : a.spot = none := by
      obtain ⟨cs', hc1, hc2⟩ := hcell 0 (by omega)
      obtain ⟨_, _, h3⟩ := World.cells?_some hc1
      obtain ⟨k, n, d, rfl, _⟩ := item_cells hc2
      have := h3 0 (by omega)
      have h4 : W.cell? a = some (.int .i64 k) := by simpa [Addr.add] using this
      exact World.cell?_spot h4
    obtain ⟨b, off, spot⟩ := a
    simp only at hsp
    subst hsp
    have hx : ∀ i, i < len → ∃ x : It, (W.cell? ⟨b, off + i * 3, none⟩ = some (.int .i64 x.k) ∧ W.cell? ⟨b, off + i * 3 + 1, none⟩ = some (.int .u64 x.n) ∧ W.cell? ⟨b, off + i * 3 + 2, none⟩ = some (.string x.d)) ∧ 0 ≤ x.n ∧ x.d.size ≤ maxLen := fun i hi => by
      obtain ⟨cs', hc1, hc2⟩ := hcell i (by omega)
      obtain ⟨_, _, h3⟩ := World.cells?_some hc1
      obtain ⟨k, n, d, rfl, hn, hd⟩ := item_cells hc2
      have g0 := h3 0 (by omega)
      have g1 := h3 1 (by omega)
      have g2 := h3 2 (by omega)
      rw [add_add] at g0 g1 g2
      exact ⟨⟨k, n, d⟩, ⟨g0, g1, g2⟩, hn, hd⟩
    haveI : Inhabited It := ⟨⟨0, 0, ⟨#[]⟩⟩⟩
    obtain ⟨V, hV⟩ := choose_lt hx
    refine ⟨(List.range len).map V, by simp, ⟨.inr ⟨b, off, m, by simp, ?_, fun i hi => ?_⟩, fun x hx => ?_, by simp; omega⟩⟩
    · exact cell_lt (hV 0 h0).1.1
    · have hi' : i < len := by simpa using hi
      have e : ((List.range len).map V)[i] = V i := by simp
      rw [e]
      exact (hV i hi').1
    · obtain ⟨i, hi, rfl⟩ := List.mem_map.1 hx
      exact (hV i (by simpa using hi)).2

end Go.Proofs.YtepinmeidjlmmaaDoor
