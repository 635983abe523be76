/- A range over a function whose iterator hands out memory of its own: what it hands out is told of the world at hand ('V k g W': round k gets what block g holds). -/
import Derived.RangeFuncNested
import Derived.WalkKit
namespace Go.Proofs.Ythgahjihgoiklaa
open Go.RowKit

/-- what lies below B, and whatever is cells, is as it was -/
structure Same (B : Nat) (W W' : World) : Prop where
  below : Below B W W'
  cells : ∀ (k : Nat) (o : Obj), W.heap[k]? = some o → o.isCells = true → W'.heap[k]? = some o
theorem lt_of_heap {W : World} {k : Nat} {o : Obj} (h : W.heap[k]? = some o) : k < W.heap.size := (Array.getElem?_eq_some_iff.1 h).1
theorem Same.refl (B : Nat) (W : World) : Same B W W := ⟨Below.refl _ _, fun _ _ h _ => h⟩
theorem Same.trans {B : Nat} {U V W : World} (h : Same B U V) (k : Same B V W) : Same B U W := ⟨h.below.trans k.below, fun i o hi ho => k.cells i o (h.cells i o hi ho) ho⟩
theorem Same.of_below {B : Nat} {W W' : World} (h : Below W.heap.size W W') (hB : B ≤ W.heap.size) : Same B W W' :=
  ⟨h.mono hB, fun k _ hk _ => (h.block k (lt_of_heap hk)).trans hk⟩
theorem Same.turn {B : Nat} {W : World} {l : Nat} {o : Obj} (o' : Obj) (hl : W.heap[l]? = some o) (ho : o.isCells = false) (hB : B ≤ l) : Same B W (W.putObj l o') := by
  have hlt := lt_of_heap hl
  refine ⟨(Below.refl B W).grown (grownBy_putObj' W l o') (by omega) (fun k e => by cases e; exact hB), fun k p hk hp => ?_⟩
  refine ((grownBy_putObj' W l o').block k (lt_of_heap hk) (fun e => ?_)).trans hk
  cases e
  rw [hl] at hk
  cases hk
  rw [ho] at hp
  cases hp
/-- what is said of cells and of what lies below B -/
def Abide (B : Nat) (I : World → Prop) : Prop := ∀ W W', I W → Same B W W' → I W'
theorem Abide.and {B : Nat} {I J : World → Prop} (h : Abide B I) (k : Abide B J) : Abide B (fun W => I W ∧ J W) := fun W W' hi hs => ⟨h W W' hi.1 hs, k W W' hi.2 hs⟩
theorem Abide.pure {B : Nat} (p : Prop) : Abide B (fun _ => p) := fun _ _ h _ => h
theorem Abide.below {B : Nat} (w : World) : Abide B (fun W => Below B w W) := fun _ _ h hs => h.trans hs.below
theorem Abide.below' {B B' : Nat} (w : World) (hB : B' ≤ B) : Abide B (fun W => Below B' w W) := fun _ _ h hs => h.trans (hs.below.mono hB)

variable {F : Fence} {n : Nat} {P : Program}

/-- The iterator: N rounds; round k is handed 'args k g', g is no block that the last round (or the caller) knew, and V k g holds; it reads what V says, and makes new memory. -/
def SeqV (F : Fence) (n : Nat) (P : Program) (gf : Nat) (lb : Array Value) (args : Nat → Nat → Array Value) (V : Nat → Nat → World → Prop) (N : Nat) (w : World) : Prop :=
  ∀ (l : Nat) (J : Nat → World → Prop) (Jx : World → Prop) (W : World), Below w.heap.size w W →
    (∀ k A B, J k A → Below A.heap.size A B → J k B) → (∀ A B, Jx A → Below A.heap.size A B → Jx B) →
    (∀ k g A0 A, k < N → J k A0 → Below A0.heap.size A0 A → A0.heap.size ≤ g → V k g A → YieldAt F (n - 1) P l (args k g) A fun e A' =>
      (e = .returned (.bool true) ∧ J (k + 1) A' ∧ V k g A') ∨ (e = .returned (.bool false) ∧ Jx A')) →
    J 0 W → CallsIn F n P gf (#[.func (.yield l) #[] #[]] ++ lb) W fun e A' => (∃ v, e = .returned v) ∧ (J N A' ∨ Jx A')

/-- how the body of round k may be left -/
def bodyV (B : Nat) (I : Nat → World → Prop) (Ix : Code → Nat → World → Prop) (V : Nat → Nat → World → Prop) (k g : Nat) (W : World) : Exit → Act → World → Prop
  | .normal, _, W' => KeepsFrom B W W' ∧ I (k + 1) W' ∧ V k g W'
  | .ret, _, W' => KeepsFrom B W W' ∧ Ix .ret k W'
  | .exit i, _, W' => KeepsFrom B W W' ∧ Ix (.exit i) k W'
  | .goto t, _, W' => KeepsFrom B W W' ∧ Ix (.goto t) k W'
  | .panic _, _, _ => False
  | .outgrown, _, _ => False

set_option maxHeartbeats 1000000 in
theorem wpIn_rangeV {g : Operand} {ps : Array Tmp} {assign body : Code} {Q : Exit → Act → World → Prop} {a : Act} {w : World}
    (hro : F.round = none) (h1 : 1 ≤ n) {gf : Nat} {lb : Array Value} (hg : a.eval g = .func (.func gf) #[] lb) (hFg : F.fn gf) (eg : ∀ args w, (callFunc gf args).run P w = .ok (.enter gf args) w)
    {args : Nat → Nat → Array Value} {V : Nat → Nat → World → Prop} {N : Nat} {w0 : World} (hseq : SeqV F (n - 1) P gf lb args V N w0) (hb0 : Below w0.heap.size w0 w) (hps : ∀ k b, (args k b).size = ps.size)
    (I : Nat → World → Prop) (Ix : Code → Nat → World → Prop) (hI : ∀ k, Abide w.heap.size (I k)) (hIx : ∀ c k, Abide w.heap.size (Ix c k)) (hV : ∀ k b, Abide w.heap.size (V k b)) (h0 : I 0 w) (a₁ : Nat → Nat → Act)
    (hassign : ∀ (l k b : Nat) (W : World) (K : Act → World → Prop), K (a₁ k b) W →
      assign.wpIn (F.inRound l) (n - 1 - 1) P (Exit.then K (fun _ _ _ => False)) { tmps := (ps.zip (args k b)).foldl (fun t (p, v) => t.setIfInBounds p v) a.tmps, defers := [] } W)
    (hbody : ∀ (l k b : Nat) (W0 W : World), k < N → I k W0 → Same w.heap.size W0 W → W0.heap.size ≤ b → V k b W → body.wpIn (F.inRound l) (n - 1 - 1) P (bodyV w.heap.size I Ix V k b W) (a₁ k b) W)
    (hdone : ∀ (D : Nat) (W : World), w.heap.size ≤ D → I N W → W.heap[D]? = some (.deferred (some [])) → Q .normal { a with defers := { target := .collected D, args := #[] } :: a.defers } W)
    (hstop : ∀ (D : Nat) (c : Code) (k : Nat) (W : World), w.heap.size ≤ D → Ix c k W → W.heap[D]? = some (.deferred (some [])) → c.wpIn F n P Q { a with defers := { target := .collected D, args := #[] } :: a.defers } W) :
    (Code.rangeFunc g ps assign body).wpIn F n P Q a w := by
  refine wpIn_rangeFunc fun fn hfn => ?_
  rw [hro]
  -- the loop's two blocks: D for the deferred calls of the rounds, D + 1 the loop's record
  let rcd : LoopState → Option Code → Loop := fun st pe => { state := st, pending := pe, fn, tmps := a.tmps, params := ps, assign, body, defers := w.heap.size }
  have hsame0 : Same w.heap.size w ((w.alloc (.deferred (some []))).alloc (.loop (rcd .ready none))) := Same.of_below (((Below.refl _ w).alloc (Nat.le_refl _) _).alloc (by simp) _) (Nat.le_refl _)
  have hD0 : ((w.alloc (.deferred (some []))).alloc (.loop (rcd .ready none))).heap[w.heap.size]? = some (.deferred (some [])) := (Below.heap_alloc _ _ _ (by simp)).trans (World.alloc_heap_new w _)
  have hL0 : ((w.alloc (.deferred (some []))).alloc (.loop (rcd .ready none))).heap[w.heap.size + 1]? = some (.loop (rcd .ready none)) := by
    have h := World.alloc_heap_new (w.alloc (.deferred (some []))) (.loop (rcd .ready none))
    rwa [World.size_alloc] at h
  have hrun := run_enterLoop_outer (P := P) (w := w) fn a.tmps ps assign body
  change _ = Result.ok _ ((w.alloc (.deferred (some []))).alloc (.loop (rcd .ready none))) at hrun
  obtain ⟨W1, hW1⟩ : ∃ W1, (w.alloc (.deferred (some []))).alloc (.loop (rcd .ready none)) = W1 := ⟨_, rfl⟩
  rw [hW1] at hsame0 hD0 hL0 hrun
  clear hW1
  refine ⟨w.heap.size + 1, [{ target := .collected w.heap.size, args := #[] }], W1, { target := .fn (.func gf) lb, args := #[.func (.yield (w.heap.size + 1)) #[] #[]] }, W1, gf, #[.func (.yield (w.heap.size + 1)) #[] #[]] ++ lb, W1, hrun, ?_, ?_, ?_, fun _ => h1, ?_⟩
  · simp only [resolve, hg]
    simp [go_sem]
  · intro f' hf'
    simp [Target.leads] at hf'
    subst hf'
    exact hFg
  · simp [invoke, go_sem, eg]
  clear hrun
  -- what the books say
  let Bk : LoopState → Option Code → World → Prop := fun st pe W => W.heap[w.heap.size + 1]? = some (.loop (rcd st pe)) ∧ W.heap[w.heap.size]? = some (.deferred (some []))
  have bkBelow : ∀ st pe (A B : World), Bk st pe A → Below A.heap.size A B → Bk st pe B := fun st pe A B h hb => ⟨(hb.block _ (lt_of_heap h.1)).trans h.1, (hb.block _ (lt_of_heap h.2)).trans h.2⟩
  have bkTurn : ∀ st pe st' pe' (A : World), Bk st pe A → Bk st' pe' (A.putObj (w.heap.size + 1) (.loop (rcd st' pe'))) := fun st pe st' pe' A h => ⟨World.putObj_heap_same (lt_of_heap h.1), (World.putObj_heap_other (by omega)).trans h.2⟩
  have bkSame : ∀ st pe st' pe' (A : World), Bk st pe A → Same w.heap.size A (A.putObj (w.heap.size + 1) (.loop (rcd st' pe'))) := fun st pe st' pe' A h => Same.turn _ h.1 rfl (Nat.le_succ _)
  have bkKeeps : ∀ st pe (A B : World), Bk st pe A → KeepsFrom w.heap.size A B → Bk st pe B := fun st pe A B h hk => ⟨hk.same _ _ (Nat.le_succ _) h.1 rfl, hk.same _ _ (Nat.le_refl _) h.2 rfl⟩
  refine (hseq (w.heap.size + 1) (fun k W => I k W ∧ Bk .ready none W) (fun W => ∃ c k, Ix c k W ∧ Bk .done (some c) W) W1 (hb0.trans (hsame0.below.mono hb0.size))
    (fun k A B h hb => ⟨hI k A B h.1 (Same.of_below hb (by have := lt_of_heap h.2.2; omega)), bkBelow _ _ _ _ h.2 hb⟩)
    (fun A B h hb => by
      obtain ⟨c, k, h1, h2⟩ := h
      exact ⟨c, k, hIx c k A B h1 (Same.of_below hb (by have := lt_of_heap h2.2; omega)), bkBelow _ _ _ _ h2 hb⟩)
    ?_ ⟨hI 0 _ _ h0 hsame0, hL0, hD0⟩).mono ?_
  · -- a round
    rintro k b W0 W hk ⟨hi, hbk0⟩ hb hfr hv
    have hbk := bkBelow _ _ _ _ hbk0 hb
    have hs0 : Same w.heap.size W0 W := Same.of_below hb (by have := lt_of_heap hbk0.2; omega)
    refine ⟨fn, _, assign, body, run_yield (P := P) (args := args k b) hbk.1 (hps k b), roundIn_of_wpIn hfn (hassign _ k b W _ ⟨_, run_beginRound hbk.1 rfl, ?_⟩)⟩
    have hs := bkSame .ready none .busy none W hbk
    have hbk2 := bkTurn .ready none .busy none W hbk
    change body.wpIn _ _ _ _ _ (W.putObj (w.heap.size + 1) (.loop (rcd .busy none)))
    refine wpIn_mono (hbody _ k b W0 _ hk hi (hs0.trans hs) hfr (hV k b _ _ hv hs)) fun e a3 W3 hp => ?_
    have out : ∀ (j : Option Code), KeepsFrom w.heap.size (W.putObj (w.heap.size + 1) (.loop (rcd .busy none))) W3 →
        ∃ st, st = (if j.isNone then LoopState.ready else LoopState.done) ∧ (Instr.endRound (w.heap.size + 1) j).run P W3 = .ok (.bool j.isNone) (W3.putObj (w.heap.size + 1) (.loop (rcd st j))) ∧ Same w.heap.size W3 (W3.putObj (w.heap.size + 1) (.loop (rcd st j))) ∧ Bk st j (W3.putObj (w.heap.size + 1) (.loop (rcd st j))) := fun j hkeep => by
      have hbk3 := bkKeeps _ _ _ _ hbk2 hkeep
      exact ⟨_, rfl, run_endRound (P := P) j hbk3.1, bkSame _ _ _ _ _ hbk3, bkTurn _ _ _ _ _ hbk3⟩
    cases e with
    | normal =>
      obtain ⟨st, rfl, hr, hs3, hb3⟩ := out none hp.1
      exact ⟨_, _, hr, .inl ⟨rfl, ⟨hI _ _ _ hp.2.1 hs3, hb3⟩, hV k b _ _ hp.2.2 hs3⟩⟩
    | ret =>
      obtain ⟨st, rfl, hr, hs3, hb3⟩ := out (some .ret) hp.1
      exact ⟨_, _, hr, .inr ⟨rfl, _, k, hIx _ _ _ _ hp.2 hs3, hb3⟩⟩
    | exit i =>
      obtain ⟨st, rfl, hr, hs3, hb3⟩ := out (some (.exit i)) hp.1
      exact ⟨_, _, hr, .inr ⟨rfl, _, k, hIx _ _ _ _ hp.2 hs3, hb3⟩⟩
    | goto t =>
      obtain ⟨st, rfl, hr, hs3, hb3⟩ := out (some (.goto t)) hp.1
      exact ⟨_, _, hr, .inr ⟨rfl, _, k, hIx _ _ _ _ hp.2 hs3, hb3⟩⟩
    | panic ch => exact hp.elim
    | outgrown => exact hp.elim
  · -- behind the iterator
    rintro e W2 ⟨⟨v, rfl⟩, ⟨hi, hbk⟩ | ⟨c, k, hi, hbk⟩⟩
    · exact ⟨none, _, run_endLoop (P := P) hbk.1 (by simp [rcd]), hdone _ _ (Nat.le_refl _) (hI N _ _ hi (bkSame _ _ .exhausted none _ hbk)) (bkTurn _ _ .exhausted none _ hbk).2⟩
    · exact ⟨some c, _, run_endLoop (P := P) hbk.1 (by simp [rcd]), hstop _ c k _ (Nat.le_refl _) (hIx c k _ _ hi (bkSame _ _ .exhausted (some c) _ hbk)) (bkTurn _ _ .exhausted (some c) _ hbk).2⟩
end Go.Proofs.Ythgahjihgoiklaa
