/- What every law's row asks alike: arguments read behind the call as before it; a []byte argument turned into a string; the tied card. -/
import Derived.Test.YtepinmeidjlmmaaDoorD1
import Derived.Test.YtepinmeidjlmmaaDoorC1
namespace Go.Proofs.YtepinmeidjlmmaaDoor
set_option maxRecDepth 100000
open Go.ChangeShapes Go.WideShapes Go.ChangeAt Go.RowKit

theorem args_again {H : Type} {enc : TypeId × Value → H} {W W' : World} (hb : Below W.heap.size W W') : ∀ {ts : List TypeId} {vs : List Value} {ds : List (DataW H)} {ps : List MemPlace},
    (∀ t ∈ ts, Tryd.prog.readableRec t = true ∧ t < Tryd.prog.types.size) → DataW.TrodAll enc Tryd.prog W 0 (fun _ => true) true ts vs ds ps → (∀ x ∈ ps, x.block < W.heap.size) →
    DataW.TrodAll enc Tryd.prog W' 0 (fun b => decide (b < W.heap.size)) true ts vs ds ps
  | [], vs, ds, ps, _, h, _ => by
    obtain ⟨rfl, rfl, rfl⟩ := trodAll_nil h
    exact trodAll_mk0
  | t :: ts, vs, ds, ps, hts, h, hlt => by
    obtain ⟨v, vs', d, ds', p, p', rfl, rfl, rfl, h1, h2⟩ := trodAll_cons h
    exact trodAll_cons_mk (Below.trod tryd_laidOut (hts t (by simp)).1 (hts t (by simp)).2 h1 hb fun x hx => hlt x (by simp [hx]))
      (args_again hb (fun u hu => hts u (by simp [hu])) h2 fun x hx => hlt x (by simp [hx]))

/-- A law that answers true and writes no cell that was there: what the row asks of its end. -/
theorem post_true {H : Type} {enc : TypeId × Value → H} {f : Func} {s : ChangeSpec} {W W' : World} {args : Array Value} {ds : List (DataW H)} {before : List MemPlace}
    (hW : DataW.Whole enc Tryd.prog f.params.toList s.vars false W args.toList ds [] before) (hv : s.vars = []) (hb : Below W.heap.size W W')
    (hA : DataW.TrodAll enc Tryd.prog W 0 (fun _ => true) true f.params.toList args.toList ds before)
    (hts : ∀ t ∈ f.params.toList, Tryd.prog.readableRec t = true ∧ t < Tryd.prog.types.size) (hres : f.resultTypes.toList = [4]) (hsz : f.resultTypes.size = 1)
    (hfn : s.fn H (ds ++ []) = { results := [.lit (.bool true)], args := ds, vars := [] }) :
    s.post enc Tryd.prog f false true false false W args (.bool true) W' := by
  refine ⟨ds, [], before, [], before, [], hW, ?_, ?_, ?_, hb.frame _, fun h => by cases h⟩
  · rw [hfn, hres, hsz]
    exact trodAll_mk1 (shut_bool Tryd.underlying4 _)
  · rw [hfn]
    exact args_again hb hts hA fun x hx => by simpa using hW.lt x hx
  · rw [hfn, hv]
    rfl

theorem run_convert_bytes_at (w : World) (a : Addr) (len cap : Nat) (xs : List Int) (hlen : xs.length = len) (hcell : ∀ i, i < len → w.cell? (a.add i) = some (.int .u8 (xs.getD i 0))) :
    (convert 25 9 (.slice (some a) len cap)).run Tryd.prog w = .ok (.string (strOfNums xs)) w := by
  have hl : (loadCells a len).run Tryd.prog w = .ok (xs.map (Value.int .u8)).toArray w := by
    have := run_loadCells_list (P := Tryd.prog) w a (xs.map (Value.int .u8)) (fun j v hj => by
      have hjl : j < xs.length := by
        rcases Nat.lt_or_ge j xs.length with h | h
        · exact h
        · simp [List.getElem?_eq_none (show (xs.map (Value.int .u8)).length ≤ j by simpa using h)] at hj
      rw [hcell j (by omega)]
      simp [List.getElem?_eq_getElem hjl] at hj
      subst hj
      simp [List.getD, List.getElem?_eq_getElem hjl])
    simpa [hlen] using this
  rw [run_convert_bytes_string w 25 9 5 _ len cap Tryd.underlying25 Tryd.underlying5 Tryd.underlying9, run_bytesToString w _ len cap xs hl, foldl_push_bytes]
  simp [strOfNums, ByteArray.empty, ByteArray.emptyWithCapacity]
  rfl

set_option maxRecDepth 100000 in
theorem tryd_cells5 : Tryd.prog.cellsOf 5 = 1 := by kernel_rfl

set_option maxRecDepth 100000 in
theorem u8_of_wf {z : Int} (h : (Lit.int .u8 z).wf = true) : 0 ≤ z ∧ z ≤ 255 := by
  have h1 : (decide (IntKind.u8.min ≤ z) && decide (z ≤ IntKind.u8.max)) = true := h
  simp only [Bool.and_eq_true, decide_eq_true_eq] at h1
  exact ⟨h1.1, h1.2⟩
theorem u64_of_wf {z : Int} (h : (Lit.int .u64 z).wf = true) : 0 ≤ z ∧ z ≤ 18446744073709551615 := by
  have h1 : (decide (IntKind.u64.min ≤ z) && decide (z ≤ IntKind.u64.max)) = true := h
  simp only [Bool.and_eq_true, decide_eq_true_eq] at h1
  exact ⟨h1.1, h1.2⟩

/-- A []byte argument, opened: nil or a row of bytes; in every later world it reads as one string. -/
theorem open_bytes {H : Type} {enc : TypeId × Value → H} {W : World} {b0 base : Nat} {r : Reach} {v : Value} {d : DataW H} {ps : List MemPlace} (hval : Value.okWide Tryd.prog W r b0 25 v) (hd : DataW.Trod enc Tryd.prog W base (fun _ => true) true 25 v d ps) :
    ∃ (a : Option Addr) (len cap : Nat) (zs : List Int), v = .slice a len cap ∧ zs.length = len ∧ (∀ z ∈ zs, 0 ≤ z ∧ z ≤ 255) ∧ ConvAt W W.heap.size (.slice a len cap) (strOfNums zs) ∧ len ≤ maxLen ∧
      ((a = none ∧ len = 0 ∧ cap = 0) ∨ ∃ b, a = some b ∧ len ≤ cap ∧ ∀ i, i < len → W.cell? (b.add i) = some (.int .u8 (zs.getD i 0))) := by
  obtain ⟨a0, len, cap, rfl⟩ := okWide_slice Tryd.underlying25 hval
  obtain ⟨fuel, hf⟩ := hd
  rcases open_ints Tryd.underlying25 Tryd.underlying5 tryd_cells5 hf with ⟨hcs, hx⟩ | ⟨a, len', cap', zs, hcs, _, hl, hm, hz, hx, hcell, hwz⟩
  · simp [Value.cells] at hcs
    obtain ⟨rfl, rfl, rfl⟩ := hcs
    refine ⟨none, 0, 0, [], rfl, rfl, (by simp), fun W' _ => ?_, (by unfold maxLen; omega), .inl ⟨rfl, rfl, rfl⟩⟩
    exact run_convert_bytes_nil W' 25 5 Tryd.underlying25 Tryd.underlying5 0 0 9 Tryd.underlying9
  · simp [Value.cells] at hcs
    obtain ⟨rfl, rfl, rfl⟩ := hcs
    simp only [if_true] at hz
    have hc : ∀ i, i < len → W.cell? (a.add i) = some (.int .u8 ((zs.take len).getD i 0)) := fun i hi => by
      rw [hcell i (by omega)]
      simp [List.getD, List.getElem?_take, hi]
    have hlt : (zs.take len).length = len := by simp; omega
    refine ⟨some a, len, cap, zs.take len, rfl, hlt, fun z hzm => ?_, fun W' hW' => run_convert_bytes_at W' a len cap _ hlt fun i hi => ?_, by omega, .inr ⟨a, rfl, hl, hc⟩⟩
    · exact u8_of_wf (hwz z (List.mem_of_mem_take hzm))
    · have h1 := hc i hi
      refine (hW'.cell ?_).trans h1
      have : (a.add i).block < W.heap.size := by
        obtain ⟨b, off, spot⟩ := a
        rcases Nat.lt_or_ge b W.heap.size with h2 | h2
        · unfold Addr.add; split <;> exact h2
        · unfold World.cell? at h1
          have hb : ((⟨b, off, spot⟩ : Addr).add i).block = b := by unfold Addr.add; split <;> rfl
          simp [hb, Array.getElem?_eq_none h2] at h1
      exact this

end Go.Proofs.YtepinmeidjlmmaaDoor
