import Derived.Test.YtepinmeidjlmmaaDoorA7
import Derived.OneCell
namespace Go.Proofs.YtepinmeidjlmmaaDoor
open Go.RowKit

/-- what 'enter' may change: the first two cells of block b, rows of levels, new blocks -/
structure NF (b : Nat) (w w' : World) : Prop where
  os : w'.os = w.os
  tape : w'.tape = w.tape
  output : w'.output = w.output
  size : w.heap.size ≤ w'.heap.size
  block : ∀ k, k < w.heap.size → k ≠ b → (∀ cur fr, w.heap[k]? ≠ some (.cells cur 100 fr)) → w'.heap[k]? = w.heap[k]?
  low : ∀ k, k < b → w'.heap[k]? = w.heap[k]?
  cell : ∀ j, 2 ≤ j → w'.cell? ⟨b, j, none⟩ = w.cell? ⟨b, j, none⟩
  frz : ∀ j, w'.frozen? ⟨b, j, none⟩ = w.frozen? ⟨b, j, none⟩
theorem NF.refl (b : Nat) (w : World) : NF b w w := ⟨rfl, rfl, rfl, Nat.le_refl _, fun _ _ _ _ => rfl, fun _ _ => rfl, fun _ _ => rfl, fun _ => rfl⟩
theorem NF.trans {b : Nat} {w1 w2 w3 : World} (h : NF b w1 w2) (k : NF b w2 w3) : NF b w1 w3 :=
  ⟨k.os.trans h.os, k.tape.trans h.tape, k.output.trans h.output, Nat.le_trans h.size k.size, fun i hi hb hn => by
    have e := h.block i hi hb hn
    rw [k.block i (Nat.lt_of_lt_of_le hi h.size) hb (by rw [e]; exact hn), e], fun i hi => (k.low i hi).trans (h.low i hi), fun j hj => (k.cell j hj).trans (h.cell j hj), fun j => (k.frz j).trans (h.frz j)⟩
theorem NF.of_below {b : Nat} {w w' : World} (hb : Below w.heap.size w w') (hlt : b < w.heap.size) : NF b w w' :=
  ⟨hb.os, hb.tape, hb.output, hb.size, fun k hk _ _ => hb.block k hk, fun k hk => hb.block k (by omega), fun j _ => hb.cell (p := ⟨b, j, none⟩) hlt, fun j => hb.frozen (p := ⟨b, j, none⟩) hlt⟩
theorem NF.setB (w : World) (b j : Nat) (u : Value) (hj : j < 2) : NF b w (w.setCell ⟨b, j, none⟩ u) :=
  ⟨rfl, rfl, rfl, by simp, fun k _ hk _ => heap_setCell_other w _ k u hk, fun k hk => heap_setCell_other w _ k u (by simp; omega), fun i hi => World.cell?_setCell_other _ _ _ _ (by simp <;> omega), fun i => World.frozen?_setCell _ _ _ _⟩
theorem NF.setRow {w : World} {b g : Nat} {cur : Array Value} {fr : Nat × Nat} (hg : w.heap[g]? = some (.cells cur 100 fr)) (hgb : b < g) (j : Nat) (u : Value) : NF b w (w.setCell ⟨g, j, none⟩ u) :=
  ⟨rfl, rfl, rfl, by simp, fun k _ _ hn => heap_setCell_other w _ k u (fun e => hn cur fr (by simp at e; rw [e]; exact hg)), fun k hk => heap_setCell_other w _ k u (by simp; omega), fun i _ => World.cell?_setCell_other _ _ _ _ (by simp <;> omega), fun i => World.frozen?_setCell _ _ _ _⟩
theorem NF.grown {w w' : World} {b base size n : Nat} {v : Value} {xs : List Value} (hown : w.ownsRow base 100 size v n xs) (hg : w.grownBy w' v.ownBlock) (hb : b < base) (hlt : b < w.heap.size) : NF b w w' := by
  have hne : some b ≠ v.ownBlock := fun he => by have := (hown.lt b he.symm).1; omega
  exact ⟨hg.os, hg.tape, hg.output, hg.size, fun k hk _ hn => hg.block k hk (fun he => by
    obtain ⟨_, h2⟩ := hown
    rcases h2 with ⟨h0, _⟩ | ⟨g, cap, cur, hv, _, hh, _⟩
    · rw [h0] at he; cases he
    · rw [hv] at he; cases he; exact hn _ _ hh), fun k hk => hg.block k (by omega) (fun he => by have := (hown.lt k he.symm).1; omega), fun j _ => World.cell?_of_block (hg.block b hlt hne), fun j => World.frozen?_of_block (hg.block b hlt hne)⟩

theorem own_row100 {w : World} {base n g cap : Nat} {xs : List Value} (h : w.ownsRow base 100 5 (.slice (some ⟨g, 0, none⟩) n cap) n xs) : ∃ cur, w.heap[g]? = some (.cells cur 100 (0, 0)) := by
  rcases h.2 with ⟨h', _⟩ | ⟨g', cap', cur, h', _, hg, _⟩
  · cases h'
  · cases h'; exact ⟨cur, hg⟩

theorem nest_cnt {w : World} {base b c : Nat} {s : List Lv} {v : Value} (h : nestAt w base b c s v) (hc : c + 1 ≤ 600) : nestAt (w.setCell ⟨b, 0, none⟩ (.int .i64 ((c : Int) + 1))) base b (c + 1) s v :=
  ⟨by rw [World.cell?_setCell_same _ _ _ h.cnt]; simp, by rw [World.cell?_setCell_other _ _ _ _ (by simp)]; exact h.lv, by rw [World.frozen?_setCell]; exact h.fr0, by rw [World.frozen?_setCell]; exact h.fr1,
    ownsRow_setCell_below h.own h.lt _, h.lt, by simpa using h.hb, h.len, hc, h.ok⟩
/-- the slice of levels is another one -/
theorem nest_lv {w : World} {base b c : Nat} {s s' : List Lv} {v v' : Value} (h : nestAt w base b c s v) (ho : w.ownsRow base 100 5 v' s'.length (stCells s')) (hl : s'.length ≤ 20)
    (hok : ∀ l ∈ s', 0 ≤ l.mi ∧ l.mi ≤ 1024 ∧ l.ld.size ≤ 1024 ∧ 0 ≤ l.ln ∧ (l.lk = 0 ∨ l.lk = 1 ∨ l.lk = 2 ∨ l.lk = 4)) : nestAt (w.setCell ⟨b, 1, none⟩ v') base b c s' v' :=
  ⟨by rw [World.cell?_setCell_other _ _ _ _ (by simp)]; exact h.cnt, World.cell?_setCell_same _ _ _ h.lv, by rw [World.frozen?_setCell]; exact h.fr0, by rw [World.frozen?_setCell]; exact h.fr1,
    ownsRow_setCell_below ho h.lt _, h.lt, by simpa using h.hb, hl, h.c512, hok⟩
theorem nest_grown {w w' : World} {base b c : Nat} {s : List Lv} {v : Value} (h : nestAt w base b c s v) (hg : w.grownBy w' v.ownBlock) (ho : w'.ownsRow base 100 5 v s.length (stCells s)) : nestAt w' base b c s v := by
  have hlt : b < w.heap.size := Nat.lt_of_lt_of_le h.lt h.hb
  have hne : some b ≠ v.ownBlock := fun he => by have := (h.own.lt b he.symm).1; have := h.lt; omega
  have hb := hg.block b hlt hne
  exact ⟨(World.cell?_of_block (a := ⟨b, 0, none⟩) hb).trans h.cnt, (World.cell?_of_block (a := ⟨b, 1, none⟩) hb).trans h.lv, (World.frozen?_of_block (a := ⟨b, 0, none⟩) hb).trans h.fr0, (World.frozen?_of_block (a := ⟨b, 1, none⟩) hb).trans h.fr1, ho, h.lt, Nat.le_trans h.hb hg.size, h.len, h.c512, h.ok⟩

def Lv.key (l : Lv) (k n : Int) (d : ByteArray) : Lv := { l with lk := k, ln := n, ld := d }
def Lv.less (l : Lv) : Lv := { l with mi := l.mi - 1 }

theorem set_end {α : Type} (a b : List α) (i : Nat) (u : α) (h : i < b.length) : (a ++ b).set (a.length + i) u = a ++ b.set i u := by
  rw [List.set_append_right _ _ (by omega), Nat.add_sub_cancel_left]

theorem nest_less {w : World} {base b c g cap : Nat} {t : Lv} {r : List Lv} (h : nestAt w base b c (t :: r) (.slice (some ⟨g, 0, none⟩) (r.length + 1) cap)) (hmi : 1 ≤ t.mi) :
    nestAt (w.setCell ⟨g, r.length * 5 + 1, none⟩ (.int .u64 (t.mi - 1))) base b c (t.less :: r) (.slice (some ⟨g, 0, none⟩) (r.length + 1) cap) ∧ NF b w (w.setCell ⟨g, r.length * 5 + 1, none⟩ (.int .u64 (t.mi - 1))) := by
  have hgb : b < g := by have h1 := (h.own.lt g rfl).1; have h2 := h.lt; omega
  obtain ⟨cur, hrow⟩ := own_row100 h.own
  have hs := (World.ownsRow.stored h.own (r.length * 5 + 1) (.int .u64 (t.mi - 1))).1
  have e : (stCells (t :: r)).set (r.length * 5 + 1) (.int .u64 (t.mi - 1)) = stCells (t.less :: r) := by
    rw [stCells, ← stCells_len, set_end _ _ _ _ (by simp [Lv.cells])]; rfl
  rw [e] at hs
  refine ⟨⟨by rw [World.cell?_setCell_other _ _ _ _ (by simp <;> omega)]; exact h.cnt, by rw [World.cell?_setCell_other _ _ _ _ (by simp <;> omega)]; exact h.lv, by rw [World.frozen?_setCell]; exact h.fr0, by rw [World.frozen?_setCell]; exact h.fr1, hs, h.lt, by simpa using h.hb, h.len, h.c512, ?_⟩, NF.setRow hrow hgb _ _⟩
  intro l hl
  rcases List.mem_cons.1 hl with rfl | hl
  · have := h.ok t (by simp)
    simp only [Lv.less]; omega
  · exact h.ok l (List.mem_cons_of_mem _ hl)

theorem nest_key {w : World} {base b c g cap : Nat} {t : Lv} {r : List Lv} {k n : Int} {d : ByteArray} (h : nestAt w base b c (t :: r) (.slice (some ⟨g, 0, none⟩) (r.length + 1) cap)) (hk : k = 1 ∨ k = 2 ∨ k = 4) (hn : 0 ≤ n) (hd : d.size ≤ 1024) :
    nestAt (((w.setCell ⟨g, r.length * 5 + 2, none⟩ (.int .i64 k)).setCell ⟨g, r.length * 5 + 3, none⟩ (.int .u64 n)).setCell ⟨g, r.length * 5 + 4, none⟩ (.string d)) base b c (t.key k n d :: r) (.slice (some ⟨g, 0, none⟩) (r.length + 1) cap) ∧
    NF b w (((w.setCell ⟨g, r.length * 5 + 2, none⟩ (.int .i64 k)).setCell ⟨g, r.length * 5 + 3, none⟩ (.int .u64 n)).setCell ⟨g, r.length * 5 + 4, none⟩ (.string d)) := by
  have hgb : b < g := by have h1 := (h.own.lt g rfl).1; have h2 := h.lt; omega
  obtain ⟨cur, hrow⟩ := own_row100 h.own
  have s1 := (World.ownsRow.stored h.own (r.length * 5 + 2) (.int .i64 k)).1
  obtain ⟨cur1, hrow1⟩ := own_row100 s1
  have s2 := (World.ownsRow.stored s1 (r.length * 5 + 3) (.int .u64 n)).1
  obtain ⟨cur2, hrow2⟩ := own_row100 s2
  have s3 := (World.ownsRow.stored s2 (r.length * 5 + 4) (.string d)).1
  have e : (((stCells (t :: r)).set (r.length * 5 + 2) (.int .i64 k)).set (r.length * 5 + 3) (.int .u64 n)).set (r.length * 5 + 4) (.string d) = stCells (t.key k n d :: r) := by
    rw [stCells, ← stCells_len, set_end _ _ _ _ (by simp [Lv.cells]), set_end _ _ _ _ (by simp [Lv.cells]), set_end _ _ _ _ (by simp [Lv.cells])]; rfl
  rw [e] at s3
  have cc : ∀ i : Nat, (((w.setCell ⟨g, r.length * 5 + 2, none⟩ (.int .i64 k)).setCell ⟨g, r.length * 5 + 3, none⟩ (.int .u64 n)).setCell ⟨g, r.length * 5 + 4, none⟩ (.string d)).cell? ⟨b, i, none⟩ = w.cell? ⟨b, i, none⟩ := fun i => by
    rw [World.cell?_setCell_other _ _ _ _ (by simp <;> omega), World.cell?_setCell_other _ _ _ _ (by simp <;> omega), World.cell?_setCell_other _ _ _ _ (by simp <;> omega)]
  refine ⟨⟨(cc 0).trans h.cnt, (cc 1).trans h.lv, by simp only [World.frozen?_setCell]; exact h.fr0, by simp only [World.frozen?_setCell]; exact h.fr1, s3, h.lt, by simpa using h.hb, h.len, h.c512, ?_⟩, ((NF.setRow hrow hgb _ _).trans (NF.setRow hrow1 hgb _ _)).trans (NF.setRow hrow2 hgb _ _)⟩
  intro l hl
  rcases List.mem_cons.1 hl with rfl | hl
  · have := h.ok t (by simp)
    simp only [Lv.key]; omega
  · exact h.ok l (List.mem_cons_of_mem _ hl)

def popAll : List Lv → List Lv
  | [] => []
  | t :: r => if t.mi = 0 then popAll r else t :: r
def newLv (k n : Int) : Lv := { mp := k == 6, mi := partsN k n, lk := 0, ln := 0, ld := ⟨#[]⟩ }
theorem newLv_ok {k n : Int} (h : 0 < partsN k n) (h2 : partsN k n ≤ 1024) : 0 ≤ (newLv k n).mi ∧ (newLv k n).mi ≤ 1024 ∧ (newLv k n).ld.size ≤ 1024 ∧ 0 ≤ (newLv k n).ln ∧ ((newLv k n).lk = 0 ∨ (newLv k n).lk = 1 ∨ (newLv k n).lk = 2 ∨ (newLv k n).lk = 4) :=
  ⟨by show 0 ≤ partsN k n; omega, h2, Nat.zero_le _, Int.le_refl _, .inl rfl⟩
def pushed (s : List Lv) (k n : Int) : List Lv := if 0 < partsN k n then newLv k n :: s else s
def keyS (s : List Lv) (k n : Int) (d : ByteArray) : List Lv :=
  match s with
  | [] => []
  | t :: r => if atKeyB (t :: r) = true then t.key k n d :: r else t :: r
def lessS : List Lv → List Lv
  | [] => []
  | t :: r => t.less :: r
def enterS (s : List Lv) (k n : Int) (d : ByteArray) : List Lv := popAll (pushed (lessS (keyS s k n d)) k n)
theorem keyS_yes {t : Lv} {r : List Lv} {k n : Int} {d : ByteArray} (h : atKeyB (t :: r) = true) : keyS (t :: r) k n d = t.key k n d :: r := by simp [keyS, h]
theorem keyS_no {s : List Lv} {k n : Int} {d : ByteArray} (h : atKeyB s = false) : keyS s k n d = s := by cases s <;> simp [keyS, h]
theorem pushed_no {s : List Lv} {k n : Int} (h : ¬ 0 < partsN k n) : pushed s k n = s := by simp only [pushed]; rw [if_neg h]
theorem pushed_yes {s : List Lv} {k n : Int} (h : 0 < partsN k n) : pushed s k n = newLv k n :: s := by simp only [pushed]; rw [if_pos h]
theorem keyS_len (s : List Lv) (k n : Int) (d : ByteArray) : (keyS s k n d).length = s.length := by
  cases s with
  | nil => rfl
  | cons t r => simp only [keyS]; split <;> rfl
theorem lessS_len (s : List Lv) : (lessS s).length = s.length := by cases s <;> rfl
theorem keyS_mi {s : List Lv} {k n : Int} {d : ByteArray} (h : ∀ t r, s = t :: r → 1 ≤ t.mi) : ∀ t r, keyS s k n d = t :: r → 1 ≤ t.mi := by
  cases s with
  | nil => intro t r e; simp [keyS] at e
  | cons t r =>
    intro t2 r2 e
    have h1 := h t r rfl
    simp only [keyS] at e
    split at e
    · cases e; exact h1
    · cases e; exact h1

theorem info100 : (Tryd.prog.info? 100).map (fun i => (i.zero, i.size, i.bytes)) = some (some (.agg #[.bool false, .int .u64 0, .int .i64 0, .int .u64 0, .string ⟨#[]⟩]), 5, 48) := by kernel_rfl

/-- append(n.levels, l), as one step of a region -/
theorem step_push {ops : Array Oper} {o : Oper} {a : Act} {W : World} {K : Act → World → Prop} {Q : Exit → Act → World → Prop} {E : Prop} (hgd : o.guard = none) (s x : Operand)
    (hop : o.op = .call { callee := .builtin .append, args := #[s, x], argTypes := #[66, 66] })
    {base b c : Nat} {st : List Lv} {v : Value} (l : Lv) (hN : nestAt W base b c st v) (hs : a.eval s = v) (B : Nat) (hx : a.eval x = .slice (some ⟨B, 0, none⟩) 1 1)
    (hB : W.heap[B]? = some (.cells #[.bool l.mp, .int .u64 l.mi, .int .i64 l.lk, .int .u64 l.ln, .string l.ld] 100 (0, 0))) (hl : st.length + 1 ≤ 20)
    (hok : 0 ≤ l.mi ∧ l.mi ≤ 1024 ∧ l.ld.size ≤ 1024 ∧ 0 ≤ l.ln ∧ (l.lk = 0 ∨ l.lk = 1 ∨ l.lk = 2 ∨ l.lk = 4))
    (h : ∀ g' cap' w', w'.cell? ⟨b, 1, none⟩ = some v → w'.frozen? ⟨b, 1, none⟩ = false → NF b W (w'.setCell ⟨b, 1, none⟩ (.slice (some ⟨g', 0, none⟩) (st.length + 1) cap')) → nestAt (w'.setCell ⟨b, 1, none⟩ (.slice (some ⟨g', 0, none⟩) (st.length + 1) cap')) base b c (l :: st) (.slice (some ⟨g', 0, none⟩) (st.length + 1) cap') → W.heap.size ≤ w'.heap.size → (∀ k, k < W.heap.size → (∀ cur fr, W.heap[k]? ≠ some (.cells cur 100 fr)) → w'.heap[k]? = W.heap[k]?) → K (a.put o.dst (.slice (some ⟨g', 0, none⟩) (st.length + 1) cap')) w') :
    if Region.wanted o (yielded ops a.tmps) = true then Oper.wp Tryd.prog o a W K Q else E := by
  have hw : Region.wanted o (yielded ops a.tmps) = true := by simp [Region.wanted, hgd]
  rw [if_pos hw]
  obtain ⟨i0, hi, hz0, hz1, hz2⟩ := info_parts info100
  refine wp_append_own W s x 66 hop base 100 i0 _ 5 48 Tryd.underlying66 hi hz0 hz1 hz2 rfl (by decide) v st.length (stCells st) hs hN.own ⟨B, 0, none⟩ 1 1 l.cells hx rfl ?_ (by simp [Lv.cells, Value.oneCell']) (by unfold maxLen; omega) (by omega) hN.hb ?_
  · intro j u hj
    have e : (⟨B, 0, none⟩ : Addr).add j = ⟨B, j, none⟩ := by unfold Addr.add; split <;> simp_all
    rw [e]
    refine cell_of_block hB ?_
    simpa [Lv.cells] using hj
  intro v' w' ho hg _
  obtain ⟨g', cap', rfl⟩ : ∃ g' cap', v' = .slice (some ⟨g', 0, none⟩) (st.length + 1) cap' := by
    rcases ho.2 with ⟨_, h1⟩ | ⟨g', cap', cur, hv, _⟩
    · omega
    · exact ⟨g', cap', hv⟩
  have hlt : b < W.heap.size := Nat.lt_of_lt_of_le hN.lt hN.hb
  have hne : some b ≠ v.ownBlock := fun he => by have := (hN.own.lt b he.symm).1; have := hN.lt; omega
  have hb := hg.block b hlt hne
  have e1 : w'.cell? ⟨b, 1, none⟩ = some v := (World.cell?_of_block (a := ⟨b, 1, none⟩) hb).trans hN.lv
  have e2 : w'.frozen? ⟨b, 1, none⟩ = false := (World.frozen?_of_block (a := ⟨b, 1, none⟩) hb).trans hN.fr1
  refine h g' cap' w' e1 e2 ((NF.grown hN.own hg hN.lt hlt).trans (NF.setB _ b 1 _ (by omega))) ?_ hg.size ?_
  · exact ⟨by rw [World.cell?_setCell_other _ _ _ _ (by simp)]; exact (World.cell?_of_block (a := ⟨b, 0, none⟩) hb).trans hN.cnt, World.cell?_setCell_same _ _ _ e1, by rw [World.frozen?_setCell]; exact (World.frozen?_of_block (a := ⟨b, 0, none⟩) hb).trans hN.fr0, by rw [World.frozen?_setCell]; exact e2,
      ownsRow_setCell_below ho hN.lt _, hN.lt, by simpa using Nat.le_trans hN.hb hg.size, by simpa using hl, hN.c512, fun y hy => by
        rcases List.mem_cons.1 hy with rfl | hy
        · exact hok
        · exact hN.ok y hy⟩
  · intro k hk hn
    exact hg.block k hk (fun he => by
      obtain ⟨_, h2⟩ := hN.own
      rcases h2 with ⟨h0, _⟩ | ⟨g, cap, cur, hv, _, hh, _⟩
      · rw [h0] at he; cases he
      · rw [hv] at he; cases he; exact hn _ _ hh)

/-- one level is left -/
theorem nest_pop {W : World} {base b c g cap : Nat} {t : Lv} {r : List Lv} (h : nestAt W base b c (t :: r) (.slice (some ⟨g, 0, none⟩) (r.length + 1) cap)) :
    nestAt (W.setCell ⟨b, 1, none⟩ (.slice (some ⟨g, 0, none⟩) r.length cap)) base b c r (.slice (some ⟨g, 0, none⟩) r.length cap) :=
  nest_lv h (ownsRow_pop (last := t.cells) (stCells_len r) h.own) (by have := h.len; simp at this; omega) fun l hl => h.ok l (List.mem_cons_of_mem _ hl)
theorem partsN_le {k n : Int} (h5 : k = 5 → n ≤ 512) (h6 : k = 6 → n ≤ 512) : partsN k n ≤ 1024 := by
  unfold partsN
  by_cases e5 : k = 5
  · rw [if_pos e5]; have := h5 e5; omega
  rw [if_neg e5]
  by_cases e6 : k = 6
  · rw [if_pos e6]; have := h6 e6; omega
  · rw [if_neg e6]; omega
theorem popAll_z {t : Lv} {r : List Lv} (h : t.mi = 0) : popAll (t :: r) = popAll r := by simp [popAll, h]
theorem popAll_nz {t : Lv} {r : List Lv} (h : ¬ t.mi = 0) : popAll (t :: r) = t :: r := by simp [popAll, h]
end Go.Proofs.YtepinmeidjlmmaaDoor
