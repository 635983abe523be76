/- Joined: M7, M8, M9, MA. -/
import Derived.Test.YtepinmeidjlmmaaDoorR18
import Derived.Deep.RegionHeld3
/- sortedPairs. -/
namespace Go.Proofs.YtepinmeidjlmmaaDoor
open Go.RowKit
set_option maxRecDepth 100000

/-- pairs of zeros -/
def zs : Nat → List Value
  | 0 => []
  | n + 1 => .int .u64 0 :: .slice none 0 0 :: zs n
theorem make_pairs (n : Nat) (hn : n ≤ 12) (w : World) : (Instr.makeSlice 87 (.int .i64 n) (.int .i64 n)).run Tryd.prog w = .ok (.slice (some ⟨w.heap.size, 0, none⟩) n n) (w.alloc (.cells (zs n).toArray 90)) := by
  have h : n = 0 ∨ n = 1 ∨ n = 2 ∨ n = 3 ∨ n = 4 ∨ n = 5 ∨ n = 6 ∨ n = 7 ∨ n = 8 ∨ n = 9 ∨ n = 10 ∨ n = 11 ∨ n = 12 := by omega
  rcases h with rfl | rfl | rfl | rfl | rfl | rfl | rfl | rfl | rfl | rfl | rfl | rfl | rfl
  all_goals first | rfl | (refine Eq.trans ?_ rfl; kernel_rfl)
/-- the first j pairs are there, the others zeros -/
def Fill (w : World) (g n j : Nat) (K : Nat → Int) (VA : Nat → Option Addr) (VL VC : Nat → Nat) : Prop := w.heap[g]? = some (.cells (pc K VA VL VC (List.range j) ++ zs (n - j)).toArray 90 (0, 0))
theorem Fill.cells {w : World} {g n j : Nat} {K : Nat → Int} {VA : Nat → Option Addr} {VL VC : Nat → Nat} (h : Fill w g n j K VA VL VC) (hj : j < n) : w.cell? ⟨g, j * 2, none⟩ = some (.int .u64 0) ∧ w.cell? ⟨g, j * 2 + 1, none⟩ = some (.slice none 0 0) ∧ ∀ i, w.frozen? ⟨g, i, none⟩ = false := by
  have hl : (pc K VA VL VC (List.range j)).length = j * 2 := by rw [pc_len, List.length_range]
  unfold Fill at h
  rw [show n - j = (n - j - 1) + 1 from by omega, zs] at h
  refine ⟨?_, ?_, fun i => ?_⟩
  · simp only [World.cell?, h]
    simp [hl]
  · simp only [World.cell?, h]
    simp [hl]
  · simp [World.frozen?, h]
theorem Fill.set {w : World} {g n j : Nat} {K : Nat → Int} {VA : Nat → Option Addr} {VL VC : Nat → Nat} (h : Fill w g n j K VA VL VC) (hj : j < n) : Fill ((w.setCell ⟨g, j * 2, none⟩ (.int .u64 (K j))).setCell ⟨g, j * 2 + 1, none⟩ (.slice (VA j) (VL j) (VC j))) g n (j + 1) K VA VL VC := by
  have hl : (pc K VA VL VC (List.range j)).length = j * 2 := by rw [pc_len, List.length_range]
  unfold Fill at h ⊢
  rw [show n - j = (n - (j + 1)) + 1 from by omega, zs] at h
  have h1 := heap_setCell_same w g (j * 2) _ 90 (.int .u64 (K j)) h
  have h2 := heap_setCell_same _ g (j * 2 + 1) _ 90 (.slice (VA j) (VL j) (VC j)) h1
  rw [h2]
  refine congrArg some (congrArg (fun c => Obj.cells c 90 (0, 0)) ?_)
  apply Array.ext'
  rw [Array.toList_setIfInBounds, Array.toList_setIfInBounds, List.range_succ, pc_app, pc_cons]
  show ((pc K VA VL VC (List.range j) ++ _).set _ _).set _ _ = (pc K VA VL VC (List.range j) ++ _) ++ _
  rw [List.set_append_right _ _ (by rw [hl]; omega), List.set_append_right _ _ (by rw [hl]; omega), hl, show j * 2 - j * 2 = 0 from by omega, show j * 2 + 1 - j * 2 = 1 from by omega, List.append_assoc]
  rfl

set_option maxHeartbeats 4000000 in
theorem pairs_any (A B : Option Addr) (n kcap vcap : Nat) (K : Nat → Int) (VA : Nat → Option Addr) (VL VC : Nat → Nat) (w : World) (h12 : n ≤ 12) (hk : ∀ i, i < n → ∃ ka, A = some ka ∧ w.cell? (ka.add i) = some (.int .u64 (K i))) (hv : ∀ i, i < n → ∃ cb, B = some ⟨cb, 0, none⟩ ∧ w.cell? ⟨cb, i, none⟩ = some (.slice (VA i) (VL i) (VC i))) :
    Calls Tryd.prog 49 #[.slice A n kcap, .slice B n vcap] w fun e w' => ∃ g cap P', e = .returned (.slice (some ⟨g, 0, none⟩) n cap) ∧ P'.Perm (List.range n) ∧ Asc K P' ∧ PairRow w' g K VA VL VC P' ∧ Below w.heap.size w w' := by
  have hmk := make_pairs n h12
  have HK := Lib.hid hk
  have HV := Lib.hid hv
  clear hk hv
  go_enter Tryd.func49, Tryd.ntmps49
  go_wp2_with fail
  go_loopw [13] (fun i wr => ∃ j : Nat, j ≤ n ∧ i = .int .i64 j ∧ Fill wr w.heap.size n j K VA VL VC ∧ Below w.heap.size w wr) (fun i _ => n - (intOf i).toNat)
  case atStart =>
    refine ⟨0, by omega, rfl, ?_, (Below.refl _ w).alloc (Nat.le_refl _) _⟩
    show (w.alloc _).heap[w.heap.size]? = _
    rw [heap_new]
    rfl
  case round =>
    obtain ⟨j, hj, rfl, hF, hb⟩ := hrel
    have HF := Lib.hid hF
    have HB := Lib.hid hb
    have hgl := lt_of_heap hF
    clear hF hb
    by_cases hlt : j < n
    · obtain ⟨ka, rfl, hkc⟩ := HK.out j hlt
      obtain ⟨cb, rfl, hvc⟩ := HV.out j hlt
      have k0 := (HB.out.cell (cell_in hkc)).trans hkc
      have v0 := (HB.out.cell (cell_in hvc)).trans hvc
      obtain ⟨c0, c1, f0⟩ := HF.out.cells hlt
      have f1 := f0 (j * 2)
      have f2 := f0 (j * 2 + 1)
      have hlI : (j : Int) < (n : Int) := by omega
      have hl0 : (0 : Int) ≤ (j : Int) := by omega
      clear f0 hkc hvc
      go_wp2_with fail
      go_roundw
      case rel => exact ⟨j + 1, by omega, by go_num, HF.out.set hlt, HB.out.trans ((below_far _ (Nat.le_refl _) _ _).trans (below_far _ (Nat.le_refl _) _ _))⟩
      case measure => simp [intOf]; omega
    · obtain rfl : j = n := by omega
      have hR : PairRow wr w.heap.size K VA VL VC (List.range j) := by
        have := HF.out
        unfold Fill at this
        rw [Nat.sub_self, zs, List.append_nil] at this
        exact this
      have HC := Lib.hid (sortN w.heap.size j j K VA VL VC (List.range j) wr hR List.length_range h12)
      have hnl : ¬ (j : Int) < (j : Int) := by omega
      clear hR
      go_wp2_with (go_at_call 71; refine HC.out.mono ?_; rintro e w3 ⟨rfl, P', hp, ha, hr, hri⟩)
      go_ret
      exact ⟨w.heap.size, j, P', rfl, hp, ha, hr, HB.out.trans (hri.below (Nat.le_of_lt hgl) (fun i hi => by cases hi))⟩
end Go.Proofs.YtepinmeidjlmmaaDoor

/- cbor.Map: what it stands on. -/
namespace Go.Proofs.YtepinmeidjlmmaaDoor
open Go.RowKit
set_option maxRecDepth 100000

theorem PairRow.get {w : World} {g : Nat} {K : Nat → Int} {VA : Nat → Option Addr} {VL VC : Nat → Nat} {P : List Nat} (h : PairRow w g K VA VL VC P) {i : Nat} (hi : i < P.length) :
    w.cell? ⟨g, i * 2, none⟩ = some (.int .u64 (K (P.getD i 0))) ∧ w.cell? ⟨g, i * 2 + 1, none⟩ = some (.slice (VA (P.getD i 0)) (VL (P.getD i 0)) (VC (P.getD i 0))) := by
  have e : P = P.take i ++ P[i] :: P.drop (i + 1) := by rw [← List.drop_eq_getElem_cons hi, List.take_append_drop]
  have hg : P.getD i 0 = P[i] := by simp [List.getD, hi]
  rw [hg]
  rw [e] at h
  exact h.at_ (by rw [List.length_take]; omega)

/-- a value of the content: it lies below base, or is one item in a block of its own -/
def Piece (w : World) (base : Nat) (A : Option Addr) (cap : Nat) (l : List It) : Prop :=
  ItemsAt w base (.slice A l.length cap) l ∨ ∃ b k n d, A = some ⟨b, 0, none⟩ ∧ l = [⟨k, n, d⟩] ∧ cap = 1 ∧ w.heap[b]? = some (.cells (itemCs k n d) 58 (0, 0)) ∧ 0 ≤ n ∧ d.size ≤ maxLen
theorem Piece.at_ {w : World} {base : Nat} {A : Option Addr} {cap : Nat} {l : List It} (h : Piece w base A cap l) (hb : base ≤ w.heap.size) : ItemsAt w w.heap.size (.slice A l.length cap) l := by
  rcases h with h | ⟨b, k, n, d, rfl, rfl, rfl, hh, h0, hd⟩
  · exact itemsAt_mono h hb
  · exact itemsAt_one (lt_of_heap hh) hh h0 hd
theorem Piece.keep {w w' : World} {base : Nat} {A : Option Addr} {cap : Nat} {l : List It} (h : Piece w base A cap l) (hb : Below base w w') (hk : ∀ (b : Nat) (cs : Array Value), w.heap[b]? = some (.cells cs 58 (0, 0)) → w'.heap[b]? = w.heap[b]?) : Piece w' base A cap l := by
  rcases h with h | ⟨b, k, n, d, rfl, rfl, rfl, hh, h0, hd⟩
  · exact .inl (h.below hb)
  · exact .inr ⟨b, k, n, d, rfl, rfl, rfl, (hk b _ hh).trans hh, h0, hd⟩
/-- a row of slices of items, the call's own -/
def VRow (w : World) (base : Nat) (v : Value) (ls : List (List It)) : Prop :=
  base ≤ w.heap.size ∧ ∃ vs, w.ownsRow base 22 1 v ls.length vs ∧ ∀ i (h : i < ls.length), ∃ A cap, vs[i]? = some (.slice A ls[i].length cap) ∧ Piece w base A cap ls[i]
theorem VRow.nil (w : World) (base : Nat) (hb : base ≤ w.heap.size) : VRow w base (.slice none 0 0) [] := ⟨hb, [], World.ownsRow_nil _ _ _ _, fun i hi => absurd hi (by simp)⟩
theorem VRow.below {w w' : World} {base : Nat} {v : Value} {ls : List (List It)} (h : VRow w base v ls) (hb : Below w.heap.size w w') : VRow w' base v ls := by
  obtain ⟨h0, vs, ho, hc⟩ := h
  refine ⟨Nat.le_trans h0 hb.size, vs, own_below ho hb, fun i hi => ?_⟩
  obtain ⟨A, cap, h1, h2⟩ := hc i hi
  exact ⟨A, cap, h1, h2.keep (hb.mono h0) (fun b cs hh => hb.block b (lt_of_heap hh))⟩
theorem VRow.vs {w : World} {base : Nat} {v : Value} {ls : List (List It)} (h : VRow w base v ls) : VS w w.heap.size v ls := by
  obtain ⟨h00, vs, ho, hc⟩ := h
  rcases ho.2 with ⟨hv, h0⟩ | ⟨g, cap, cur, hv, hb, hg, h1⟩
  · exact .inl ⟨hv, List.eq_nil_of_length_eq_zero h0⟩
  · refine .inr ⟨g, cap, hv, lt_of_heap hg, fun i hi => ?_⟩
    obtain ⟨A, c2, h2, h3⟩ := hc i hi
    refine ⟨A, c2, ?_, h3.at_ h00⟩
    have e : (⟨g, 0, none⟩ : Addr).add i = ⟨g, i, none⟩ := by unfold Addr.add; split <;> simp_all
    rw [← e]
    exact ho.cells (by rw [hv]; rfl) i _ h2

/-- append(v, a, b) of two slices of items, as one step of a region -/
theorem step_two2 {ops : Array Oper} {o : Oper} {a : Act} {W : World} {K : Act → World → Prop} {Q : Exit → Act → World → Prop} {E : Prop} (hgd : o.guard = none) (s x : Operand)
    (ho : o.op = .call { callee := .builtin .append, args := #[s, x], argTypes := #[50, 50] }) {base : Nat} {v : Value} {ls : List (List It)} (hV : VRow W base v ls) (hs : a.eval s = v) (hn : ls.length ≤ 1000)
    (B : Nat) (l1 l2 : List It) (a1 a2 : Option Addr) (c1 c2 : Nat) (hB : W.heap[B]? = some (.cells #[.slice a1 l1.length c1, .slice a2 l2.length c2] 22 (0, 0))) (hx : a.eval x = .slice (some ⟨B, 0, none⟩) 2 2)
    (I1 : Piece W base a1 c1 l1) (I2 : Piece W base a2 c2 l2)
    (h : ∀ v' w', VRow w' base v' (ls ++ [l1, l2]) → Below base W w' → (∀ (b : Nat) (cs : Array Value) (t : TypeId), t ≠ 22 → W.heap[b]? = some (.cells cs t (0, 0)) → w'.heap[b]? = W.heap[b]?) → W.heap.size ≤ w'.heap.size → K (a.put o.dst v') w') :
    if Region.wanted o (yielded ops a.tmps) = true then Oper.wp Tryd.prog o a W K Q else E := by
  have hw : Region.wanted o (yielded ops a.tmps) = true := by simp [Region.wanted, hgd]
  rw [if_pos hw]
  obtain ⟨hb, vs, hown, hc⟩ := hV
  obtain ⟨i0, hi, hz0, hz1, hz2⟩ := info_parts info22
  refine wp_append_own W s x 50 ho base 22 i0 _ 1 24 Tryd.underlying50 hi hz0 hz1 hz2 rfl (by decide) v ls.length vs hs hown ⟨B, 0, none⟩ 2 2 [.slice a1 l1.length c1, .slice a2 l2.length c2] hx rfl ?_ (by simp [Value.oneCell']) (by unfold maxLen; omega) (by omega) hb ?_
  · intro j u hj
    have e : (⟨B, 0, none⟩ : Addr).add j = ⟨B, j, none⟩ := by unfold Addr.add; split <;> simp_all
    rw [e]
    exact cell_of_block hB (by simpa using hj)
  intro v' w' h1 h2 _
  have hbw : Below base W w' := below_of_grown hown hb h2
  have hk : ∀ (b : Nat) (cs : Array Value) (t : TypeId), t ≠ 22 → W.heap[b]? = some (.cells cs t (0, 0)) → w'.heap[b]? = W.heap[b]? := by
    intro b cs t ht hh
    refine h2.block b (lt_of_heap hh) (fun e => ?_)
    rcases hown.2 with ⟨hv, _⟩ | ⟨g, cap, cur, hv, _, hg, _⟩
    · rw [hv] at e; simp [Value.ownBlock] at e
    · rw [hv] at e
      have e2 : b = g := by simpa [Value.ownBlock] using e
      subst e2
      rw [hh] at hg
      simp only [Option.some.injEq, Obj.cells.injEq] at hg
      exact ht hg.2.1
  have hlen : vs.length = ls.length := by have := hown.1; omega
  refine h v' w' ⟨Nat.le_trans hb h2.size, vs ++ [.slice a1 l1.length c1, .slice a2 l2.length c2], by simpa using h1, fun i hi => ?_⟩ hbw hk h2.size
  by_cases hlt : i < ls.length
  · obtain ⟨A, cap, e1, e2⟩ := hc i hlt
    rw [List.getElem_append_left hlt]
    exact ⟨A, cap, by rw [List.getElem?_append_left (by omega)]; exact e1, e2.keep hbw (fun b cs hh => hk b cs 58 (by decide) hh)⟩
  · have hi2 : i = ls.length ∨ i = ls.length + 1 := by simp at hi; omega
    rcases hi2 with rfl | rfl
    · rw [List.getElem_append_right (Nat.le_refl _)]
      exact ⟨a1, c1, by rw [List.getElem?_append_right (by omega), hlen]; simp, by simpa using I1.keep hbw (fun b cs hh => hk b cs 58 (by decide) hh)⟩
    · rw [List.getElem_append_right (by omega)]
      exact ⟨a2, c2, by rw [List.getElem?_append_right (by omega), hlen]; simp, by simpa using I2.keep hbw (fun b cs hh => hk b cs 58 (by decide) hh)⟩

/-- what a map holds -/
def content (K : Nat → Int) (ls : List (List It)) (P : List Nat) : List (List It) := P.flatMap fun i => [[⟨1, K i, ⟨#[]⟩⟩], ls.getD i []]
theorem content_snoc (K : Nat → Int) (ls : List (List It)) (P : List Nat) (x : Nat) : content K ls (P ++ [x]) = content K ls P ++ [[⟨1, K x, ⟨#[]⟩⟩], ls.getD x []] := by simp [content]
theorem content_len (K : Nat → Int) (ls : List (List It)) : ∀ P : List Nat, (content K ls P).length = 2 * P.length
  | [] => rfl
  | x :: r => by
    have := content_len K ls r
    simp only [content, List.flatMap_cons, List.length_append, List.length_cons, List.length_nil] at this ⊢
    omega
end Go.Proofs.YtepinmeidjlmmaaDoor

/- cbor.Map, walked. -/
namespace Go.Proofs.YtepinmeidjlmmaaDoor
open Go.RowKit
set_option maxRecDepth 100000

/-- in strictly ascending order of the keys -/
def Strict (K : Nat → Int) (P : List Nat) : Prop := P.Pairwise fun a b => K a < K b
theorem asc_strict {K : Nat → Int} : ∀ {P : List Nat}, Asc K P → (∀ t, t + 1 < P.length → K (P.getD t 0) ≠ K (P.getD (t + 1) 0)) → Strict K P
  | [], _, _ => List.Pairwise.nil
  | [a], _, _ => by simp [Strict]
  | a :: b :: r, h, hne => by
    unfold Asc at h
    have h0 := List.pairwise_cons.1 h
    have h1 := List.pairwise_cons.1 h0.2
    have ih := asc_strict (P := b :: r) h0.2 (fun t ht => by
      have := hne (t + 1) (by simp at ht ⊢; omega)
      simpa using this)
    have hab : K a < K b := by
      have e1 := hne 0 (by simp)
      have e2 := h0.1 b (by simp)
      simp at e1
      omega
    refine List.pairwise_cons.2 ⟨fun c hc => ?_, ih⟩
    rcases List.mem_cons.1 hc with rfl | hc
    · exact hab
    · have := h1.1 c hc; omega
theorem strict_nodup {K : Nat → Int} {n : Nat} {P : List Nat} (h : Strict K P) (hp : P.Perm (List.range n)) : ((List.range n).map K).Nodup := by
  rw [← (hp.map K).nodup_iff]
  unfold List.Nodup
  rw [List.pairwise_map]
  exact h.imp (fun hab => by omega)
theorem dup_not {K : Nat → Int} {n t : Nat} {P : List Nat} (hp : P.Perm (List.range n)) (ht : t + 1 < P.length) (he : K (P.getD t 0) = K (P.getD (t + 1) 0)) : ¬ ((List.range n).map K).Nodup := by
  rw [← (hp.map K).nodup_iff]
  intro h
  have e : P = P.take t ++ P[t] :: P[t + 1] :: P.drop (t + 2) := by
    rw [← List.drop_eq_getElem_cons ht, ← List.drop_eq_getElem_cons (show t < P.length by omega), List.take_append_drop]
  have g0 : P.getD t 0 = P[t] := by simp [List.getD, show t < P.length by omega]
  have g1 : P.getD (t + 1) 0 = P[t + 1] := by simp [List.getD, ht]
  rw [g0, g1] at he
  rw [e, List.map_append, List.map_cons, List.map_cons, he] at h
  have := (List.nodup_append.1 h).2.1
  simp at this

/-- what Map answers -/
def MapR (K : Nat → Int) (n : Nat) (ls : List (List It)) (r : Int × List It) : Prop :=
  (n ≠ ls.length ∧ r = (4, [])) ∨ (n = ls.length ∧ ¬ ((List.range n).map K).Nodup ∧ r = (10, [])) ∨ (n = ls.length ∧ ((List.range n).map K).Nodup ∧ valAllE ls ≠ 0 ∧ r = (valAllE ls, [])) ∨
  (n = ls.length ∧ ((List.range n).map K).Nodup ∧ valAllE ls = 0 ∧ ∃ P, P.Perm (List.range n) ∧ Strict K P ∧ r = contE 6 n (content K ls P))
theorem content_small {K : Nat → Int} {ls : List (List It)} {M : Nat} (h : ∀ l ∈ ls, l.length ≤ M) : ∀ P : List Nat, total (content K ls P) ≤ P.length * (M + 1)
  | [] => by simp [content, total]
  | x :: r => by
    have ih := content_small (K := K) h r
    have hx : (ls.getD x []).length ≤ M := by
      by_cases hlt : x < ls.length
      · simp only [List.getD, List.getElem?_eq_getElem hlt, Option.getD_some]
        exact h _ (List.getElem_mem hlt)
      · simp [List.getD, List.getElem?_eq_none (show ls.length ≤ x by omega)]
    have e : total (content K ls (x :: r)) = 1 + (ls.getD x []).length + total (content K ls r) := by
      simp [content, total]
      omega
    rw [e, List.length_cons, Nat.add_mul]
    omega

theorem vals_fun {w : World} {B : Nat} {V : Value} {ls : List (List It)} (h : VS w B V ls) : ∃ (A : Option Addr) (cap : Nat) (VA : Nat → Option Addr) (VC : Nat → Nat), V = .slice A ls.length cap ∧
    ∀ i, i < ls.length → (∃ cb, A = some ⟨cb, 0, none⟩ ∧ w.cell? ⟨cb, i, none⟩ = some (.slice (VA i) (ls.getD i []).length (VC i))) ∧ ItemsAt w B (.slice (VA i) (ls.getD i []).length (VC i)) (ls.getD i []) := by
  rcases h with ⟨rfl, rfl⟩ | ⟨cb, cap, rfl, hW⟩
  · exact ⟨none, 0, fun _ => none, fun _ => 0, rfl, fun i hi => absurd hi (by simp)⟩
  · have hex : ∀ i, ∃ (p : Option Addr × Nat), i < ls.length → w.cell? ⟨cb, i, none⟩ = some (.slice p.1 (ls.getD i []).length p.2) ∧ ItemsAt w B (.slice p.1 (ls.getD i []).length p.2) (ls.getD i []) := by
      intro i
      by_cases hi : i < ls.length
      · obtain ⟨A, c, h1, h2⟩ := hW.cell i hi
        have e : ls.getD i [] = ls[i] := by simp [List.getD, hi]
        exact ⟨(A, c), fun _ => by rw [e]; exact ⟨h1, h2⟩⟩
      · exact ⟨(none, 0), fun h => absurd h hi⟩
    obtain ⟨f, hf⟩ := Classical.skolem.1 hex
    exact ⟨_, cap, fun i => (f i).1, fun i => (f i).2, rfl, fun i hi => ⟨⟨cb, rfl, (hf i hi).1⟩, (hf i hi).2⟩⟩
end Go.Proofs.YtepinmeidjlmmaaDoor

/- cbor.Map, walked. -/
namespace Go.Proofs.YtepinmeidjlmmaaDoor
open Go.RowKit
set_option maxRecDepth 100000

/-- the pair's box, for a region -/
def PS (W : World) (B : Nat) (k : Int) (a : Option Addr) (n c : Nat) : Prop := W.heap[B]? = some (.cells #[.int .u64 k, .slice a n c] 90 (0, 0)) ∧ W.cell? ⟨B, 0, none⟩ = some (.int .u64 k) ∧ W.cell? ⟨B, 1, none⟩ = some (.slice a n c)
theorem PS.mk' {W : World} {B : Nat} {k : Int} {a : Option Addr} {n c : Nat} (h : W.heap[B]? = some (.cells #[.int .u64 k, .slice a n c] 90 (0, 0))) : PS W B k a n c := ⟨h, cell_of_block h rfl, cell_of_block h rfl⟩
theorem PS.step {W W' : World} {B : Nat} {k : Int} {a : Option Addr} {n c : Nat} (h : PS W B k a n c) (hb : Below W.heap.size W W') : PS W' B k a n c := PS.mk' ((hb.block B (lt_of_heap h.1)).trans h.1)
theorem PS.keep {W W' : World} {B : Nat} {k : Int} {a : Option Addr} {n c : Nat} (h : PS W B k a n c) (hk : ∀ (b : Nat) (cs : Array Value) (t : TypeId), t ≠ 22 → W.heap[b]? = some (.cells cs t (0, 0)) → W'.heap[b]? = W.heap[b]?) : PS W' B k a n c := PS.mk' ((hk B _ 90 (by decide) h.1).trans h.1)
theorem take_snoc {P : List Nat} {j : Nat} (h : j < P.length) : P.take (j + 1) = P.take j ++ [P.getD j 0] := by
  rw [List.take_succ_eq_append_getElem h]; simp [List.getD, h]

def MapP (K : Nat → Int) (n : Nat) (ls : List (List It)) (w : World) (e : Ending) (w' : World) : Prop := ∃ r, MapR K n ls r ∧ ResP r w e w'

set_option maxHeartbeats 4000000 in
theorem map_any (A : Option Addr) (n kcap : Nat) (V : Value) (ls : List (List It)) (K : Nat → Int) (w : World) (hk : ∀ i, i < n → ∃ ka, A = some ka ∧ w.cell? (ka.add i) = some (.int .u64 (K i))) (hV : VS w w.heap.size V ls) (ht : Tabs w)
    (h12 : n ≤ 12) (hlm : ls.length ≤ 13) (hK : ∀ i, 0 ≤ K i) (hM : ∀ l ∈ ls, l.length ≤ 1000) :
    Calls Tryd.prog 30 #[.slice A n kcap, V] w (MapP K n ls w) := by
  obtain ⟨A2, cap2, VA, VC, rfl, hvals⟩ := vals_fun hV
  by_cases hnm : n = ls.length
  · subst hnm
    have HP := Lib.hid (pairs_any A A2 ls.length kcap cap2 K VA (fun i => (ls.getD i []).length) VC w h12 hk (fun i hi => (hvals i hi).1))
    have HV := Lib.hid hV
    have HT := Lib.hid ht
    have HVS := Lib.hid hvals
    have HM := Lib.hid hM
    have HKK := Lib.hid hK
    clear hk hV ht hvals hM hK
    go_enter Tryd.func30, Tryd.ntmps30
    go_wp2_with fail
    refine HP.out.mono ?_
    rintro e w1 ⟨g, gc, P, rfl, hp, ha, hr, hb1⟩
    have HPP := Lib.hid hp
    have HA := Lib.hid ha
    have HR := Lib.hid hr
    have HB1 := Lib.hid hb1
    have hPl : P.length = ls.length := by have := hp.length_eq; rwa [List.length_range] at this
    have hgl := lt_of_heap hr
    have hs1 := hb1.size
    clear hp ha hr hb1
    go_wp2_with fail
    go_loopw [7] (fun iv wr => ∃ i : Nat, 1 ≤ i ∧ i ≤ 13 ∧ iv = .int .i64 i ∧ Hid (∀ t, t + 1 < i → t + 1 < ls.length → K (P.getD t 0) ≠ K (P.getD (t + 1) 0)) ∧ Below w1.heap.size w1 wr) (fun iv _ => 13 - (intOf iv).toNat)
    case atStart => exact ⟨1, by omega, by omega, rfl, Lib.hid (fun t ht => absurd ht (by omega)), Below.refl _ _⟩
    case round =>
      obtain ⟨i, hi1, hi13, rfl, HNE, hb⟩ := hrel
      obtain ⟨j, rfl⟩ : ∃ j, i = j + 1 := ⟨i - 1, by omega⟩
      have HB := Lib.hid hb
      have hs2 := hb.size
      clear hb
      by_cases hlt : j + 1 < ls.length
      · have hR2 : PairRow wr g K VA (fun i => (ls.getD i []).length) VC P := HR.out.below HB.out
        obtain ⟨y0, _⟩ := hR2.get (i := j) (by omega)
        obtain ⟨x0, _⟩ := hR2.get (i := j + 1) (by omega)
        have hj1 : (j : Int) + 1 < (ls.length : Int) := by omega
        have hj0 : (0 : Int) ≤ (j : Int) + 1 := by omega
        have hjt : ((j : Int) + 1).toNat = j + 1 := by omega
        have hj3 : (0 : Int) ≤ (j : Int) := by omega
        have hjw : IntKind.i64.wrap (j : Int) = (j : Int) := by rw [IntKind.wrap_i64]; omega
        have hj4 : (j : Int) < (ls.length : Int) := by omega
        generalize hkx : K (P.getD (j + 1) 0) = kx at *
        generalize hky : K (P.getD j 0) = ky at *
        clear hR2
        by_cases he : kx = ky
        · have heb : (kx == ky) = true := by simp [he]
          have hdup := Lib.hid (dup_not (K := K) HPP.out (t := j) (by omega) (by rw [hkx, hky, he]))
          clear he hkx hky
          go_wp2_with fail
          go_quiet (fail)
          go_wp2
          go_ret2
          exact ⟨(10, []), .inr (.inl ⟨rfl, hdup.out, rfl⟩), _, rfl, itemsAt_nil _ _, nil_cap, (HB1.out.trans (HB.out.mono hs1)).trans (below_dn _ _ _)⟩
        · have heb : (kx == ky) = false := by simp [he]
          have hne : ∀ t, t + 1 < j + 1 + 1 → t + 1 < ls.length → K (P.getD t 0) ≠ K (P.getD (t + 1) 0) := by
            intro t ht1 ht2
            by_cases htj : t = j
            · subst htj; rw [hkx, hky]; exact fun e => he e.symm
            · exact HNE.out t (by omega) ht2
          have HNE2 := Lib.hid hne
          clear he hkx hky hne
          go_wp2_with fail
          go_quiet (fail)
          go_wp2_with fail
          go_roundw
          case rel => exact ⟨j + 1 + 1, by omega, by omega, by go_num, HNE2, HB.out.trans (below_dn _ _ _)⟩
          case measure => simp [intOf]; omega
      · have hst := Lib.hid (asc_strict HA.out (fun t ht => HNE.out t (by omega) (by omega)))
        have hnd := Lib.hid (strict_nodup hst.out HPP.out)
        have HBW := Lib.hid (HB1.out.trans (HB.out.mono hs1))
        have hnl : ¬ (j : Int) + 1 < (ls.length : Int) := by omega
        have HC50 := Lib.hid (valsAll_any _ ls wr ((HV.out.below HBW.out).mono HBW.out.size) (HT.out.later HBW.out) (by omega))
        go_wp2_with fail
        refine HC50.out.mono ?_
        rintro e w2 ⟨rfl, hb2⟩
        by_cases hz : valAllE ls = 0
        · have hzb : (valAllE ls != 0) = false := by simp [hz]
          have HZ := Lib.hid hz
          have HB2 := Lib.hid (HBW.out.trans (hb2.mono HBW.out.size))
          have HR2 := Lib.hid ((HR.out.below HB.out).below hb2)
          have hs3 := HB2.out.size
          have hgw2 : g < w2.heap.size := lt_of_heap HR2.out
          clear hz hb2
          go_wp2_with fail
          go_loopw [9, 45] (fun v iv wr => ∃ j : Nat, j ≤ ls.length ∧ iv = .int .i64 j ∧ VRow wr w2.heap.size v (content K ls (P.take j)) ∧ Below w2.heap.size w2 wr) (fun _ iv _ => ls.length - (intOf iv).toNat)
          case atStart => exact ⟨0, by omega, rfl, VRow.nil _ _ (Nat.le_refl _), Below.refl _ _⟩
          case round =>
            obtain ⟨j, hj, rfl, hVr, hb⟩ := hrel
            have HVR := Lib.hid hVr
            have HBR := Lib.hid hb
            have hs4 := hb.size
            clear hVr hb
            by_cases hlt : j < ls.length
            · obtain ⟨y0, y1⟩ := (HR2.out.below (HBR.out.mono (Nat.le_refl _))).get (i := j) (by omega)
              have hsn := Lib.hid (take_snoc (P := P) (j := j) (by omega))
              have hpm : P.getD j 0 < ls.length := by
                have h1 : P.getD j 0 ∈ P := by
                  simp only [List.getD, List.getElem?_eq_getElem (show j < P.length by omega), Option.getD_some]
                  exact List.getElem_mem _
                exact List.mem_range.1 (HPP.out.mem_iff.1 h1)
              obtain ⟨_, hIv⟩ := HVS.out _ hpm
              have HIV := Lib.hid hIv
              have hkn := HKK.out (P.getD j 0)
              have hcl : (content K ls (P.take j)).length ≤ 1000 := by rw [content_len, List.length_take]; omega
              generalize hpv : P.getD j 0 = pv at *
              generalize hl2 : ls.getD pv [] = l2 at *
              have hlj : (j : Int) < (ls.length : Int) := by omega
              have hl0 : (0 : Int) ≤ (j : Int) := by omega
              have HW := Lib.hid ((((Below.refl wr.heap.size wr).alloc (Nat.le_refl _) (.cells #[.int .u64 (K pv), .slice (VA pv) l2.length (VC pv)] 90)).alloc (by simp) (.cells (itemCs 1 (K pv) ⟨#[]⟩) 58)).alloc (by simp; omega) (.cells #[.slice (some ⟨wr.heap.size + 1, 0, none⟩) 1 1, .slice (VA pv) l2.length (VC pv)] 22))
              clear hIv
              go_wp2_with fail
              go_region_held3 (fun W => W.heap[wr.heap.size]? = some (.cells #[.int .u64 (K pv), .slice (VA pv) l2.length (VC pv)] 90 (0, 0)) ∧ W.cell? ⟨wr.heap.size, 0, none⟩ = some (.int .u64 (K pv)) ∧ W.cell? ⟨wr.heap.size, 1, none⟩ = some (.slice (VA pv) l2.length (VC pv)))
                (first | (exact PS.mk' (heap_new wr _)) | (exact PS.keep (by assumption) hk3) | (exact PS.step (by assumption) ((Below.refl _ _).alloc (Nat.le_refl _) _)) | (exact PS.step (by assumption) (Below.refl _ _).drew))
                (first | (go_at_call 34; refine (uint_any _ _).mono ?_; rintro e w3 ⟨rfl, rfl⟩) | (refine step_two2 rfl (.tmp 49) (.tmp 55) rfl (by exact HVR.out.below HW.out.drew) rfl hcl (wr.heap.size + 2) [⟨1, K pv, ⟨#[]⟩⟩] l2 (some ⟨wr.heap.size + 1, 0, none⟩) (VA pv) 1 (VC pv) (by exact heap_new5 wr _ _ _) rfl (by exact .inr ⟨wr.heap.size + 1, 1, K pv, ⟨#[]⟩, rfl, rfl, rfl, heap_new6 wr _ _ _, hkn, Nat.zero_le _⟩) (by exact .inl (itemsAt_mono (HIV.out.below (HB2.out.trans ((HBR.out.trans (HW.out.drew.mono hs4)).mono hs3))) hs3)) ?_; intro v4 w4 hv4 hb4 hk3 hs5))
              go_split_ands
              have hV5 : VRow w4 w2.heap.size v4 (content K ls (P.take (j + 1))) := by rw [hsn.out, content_snoc, hl2]; exact hv4
              have HV5 := Lib.hid hV5
              have HB5 := Lib.hid (HBR.out.trans ((HW.out.drew.mono hs4).trans hb4))
              clear hv4 hb4 hk3 hV5 hs5
              go_wp2_with fail
              go_roundw
              case rel => exact ⟨j + 1, by omega, by go_num, HV5.out, HB5.out⟩
              case measure => simp [intOf]; omega
            · obtain rfl : j = ls.length := by omega
              have hV6 := HVR.out
              rw [List.take_of_length_le (by omega)] at hV6
              have HB6 := Lib.hid (HB2.out.trans (HBR.out.mono hs3))
              have hne6 : ∀ l ∈ content K ls P, l ≠ [] := by
                intro l hl
                unfold content at hl
                obtain ⟨i, hi, hl⟩ := List.mem_flatMap.1 hl
                have him : i < ls.length := List.mem_range.1 (HPP.out.mem_iff.1 hi)
                simp only [List.mem_cons, List.not_mem_nil, or_false] at hl
                rcases hl with rfl | rfl
                · simp
                · simp only [List.getD, List.getElem?_eq_getElem him, Option.getD_some]
                  exact (valAll_ne HZ.out _ (List.getElem_mem him)).1
              have hc0 : content K ls P = [] → ls.length = 0 := by
                intro e
                have := content_len K ls P
                rw [e] at this
                simp at this
                omega
              have hct : total (content K ls P) ≤ 1000000 := by
                have := content_small (K := K) HM.out P
                have h3 : P.length * (1000 + 1) ≤ 12 * 1001 := Nat.mul_le_mul (by omega) (by omega)
                omega
              have HC := Lib.hid (cont_any 6 ls.length _ (content K ls P) wr hV6.vs (HT.out.later HB6.out) (.inr rfl) (by omega) hc0 hne6 hct (by rw [content_len]; omega))
              have hfin := Lib.hid (show MapR K ls.length ls (contE 6 ls.length (content K ls P)) from .inr (.inr (.inr ⟨rfl, hnd.out, HZ.out, P, HPP.out, hst.out, rfl⟩)))
              generalize contE 6 ls.length (content K ls P) = rr at *
              obtain ⟨A6, c6, rfl⟩ := hV6.vs.len
              clear hV6 hne6 hc0 hct
              go_wp2_with fail
              refine HC.out.mono ?_
              rintro e w7 ⟨v7, rfl, hI7, hcp7, hb7⟩
              go_wp2
              go_ret2
              exact ⟨rr, hfin.out, v7, rfl, hI7, hcp7, HB6.out.trans (hb7.mono HB6.out.size)⟩
        · have hzb : (valAllE ls != 0) = true := by simp [hz]
          have HZ := Lib.hid hz
          clear hz
          go_wp2
          go_ret2
          exact ⟨(valAllE ls, []), .inr (.inr (.inl ⟨rfl, hnd.out, HZ.out, rfl⟩)), _, rfl, itemsAt_nil _ _, nil_cap, HBW.out.trans (hb2.mono HBW.out.size)⟩
  · have hne : ((n : Int) == (ls.length : Int)) = false := by rw [beq_eq_false_iff_ne]; omega
    have hne2 : ¬ (n : Int) = (ls.length : Int) := by omega
    go_enter Tryd.func30, Tryd.ntmps30
    go_wp2
    go_ret2
    exact ⟨(4, []), .inl ⟨hnm, rfl⟩, _, rfl, itemsAt_nil _ _, nil_cap, Below.refl _ _⟩
end Go.Proofs.YtepinmeidjlmmaaDoor
