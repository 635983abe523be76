/- The law DigestWords, walked. -/
import Derived.Test.YtgfcbgnlkiebhaaSipP
import Derived.Deep.RegionWith
namespace Go.Proofs.Ytgfcbgnlkiebhaa
open Go.RowKit
set_option maxRecDepth 100000

theorem infoW : (Try.prog.info? 22).map (fun i => (i.zero, i.size, i.bytes)) = some (some (.int .u64 0), 1, 8) := by kernel_rfl
def wv (l : List (BitVec 64)) : List Value := l.map fun x => .int .u64 (val x)
theorem wv_app (a b : List (BitVec 64)) : wv (a ++ b) = wv a ++ wv b := by simp [wv]
theorem wv_len (a : List (BitVec 64)) : (wv a).length = a.length := by simp [wv]
theorem wv_at (l : List (BitVec 64)) (j : Nat) (h : j < l.length) : (wv l)[j]? = some (.int .u64 (val (l.getD j 0))) := by
  simp only [wv, List.getElem?_map, List.getD]
  rw [List.getElem?_eq_getElem h]; rfl
theorem wv_one (l : List (BitVec 64)) : ∀ u ∈ wv l, u.oneCell' = true := by
  intro u hu
  simp only [wv, List.mem_map] at hu
  obtain ⟨z, _, rfl⟩ := hu
  rfl
theorem Ws.cells {w : World} {a : Addr} {m : Nat} {ws : List (BitVec 64)} (h : Ws w (some a) m ws) : ∀ j u, (wv ws)[j]? = some u → w.cell? (a.add j) = some u := by
  intro j u hj
  have hjm : j < ws.length := by
    rcases Nat.lt_or_ge j ws.length with h1 | h1
    · exact h1
    · rw [List.getElem?_eq_none (by rw [wv_len]; exact h1)] at hj; cases hj
  rw [wv_at ws j hjm] at hj
  cases hj
  obtain ⟨a2, e, hc⟩ := h.at_ j (by have := h.len; omega)
  cases e
  exact hc
theorem own_words {w : World} {base n : Nat} {v : Value} {ws : List (BitVec 64)} (h : w.ownsRow base 22 1 v n (wv ws)) :
    ∃ A cap, v = .slice A n cap ∧ Ws w A n ws := by
  have hl : ws.length = n := by have := h.1; rw [wv_len] at this; omega
  rcases h.2 with ⟨hv, h0⟩ | ⟨g, cap, cur, hv, _, _, h1, h2, _⟩
  · subst h0
    exact ⟨none, 0, hv, hl, fun i hi => absurd hi (by omega)⟩
  · refine ⟨_, cap, hv, hl, fun i hi => ⟨_, rfl, ?_⟩⟩
    exact h.cells (g := g) (by rw [hv]; rfl) i _ (wv_at ws i (by omega))

theorem run_append_own_nil {w : World} {base n c : Nat} {v : Value} {xs : List Value} {ty : TypeId} (h : w.ownsRow base 22 1 v n xs) :
    (Builtin.append_ #[48, 48] ty #[v, .slice none 0 c]).run Try.prog w = .ok v w := by
  obtain ⟨i0, hi, hz0, hz1, hz2⟩ := info_parts infoW
  rcases h.2 with ⟨hv, h0⟩ | ⟨g, cap, cur, hv, _, _, h1, _, _⟩
  · subst hv
    simp [Builtin.append_, run_underlying Try.underlying48, sizeOf, typeInfo, hi, Builtin.lenOf, Builtin.firstCells]
  · subst hv
    simp [Builtin.append_, run_underlying Try.underlying48, sizeOf, typeInfo, hi, Builtin.lenOf, Builtin.firstCells, h1, storeCells]

/-- append(l, m...) of words, l the call's own -/
theorem app_words {ops : Array Oper} {rest : List Oper} {o : Oper} {a : Act} {Q : Exit → Act → World → Prop} {w : World} (hgd : o.guard = none) (s x : Operand)
    (ho : o.op = .call { callee := .builtin .append, args := #[s, x], argTypes := #[48, 48] })
    (base : Nat) (v : Value) (n : Nat) (xs : List (BitVec 64)) (A : Option Addr) (m cap : Nat) (ws : List (BitVec 64)) (hown : w.ownsRow base 22 1 v n (wv xs)) (hs : a.eval s = v)
    (hB : Ws w A m ws) (hx : a.eval x = .slice A m cap) (hn : n + m ≤ 1000000000) (hb : base ≤ w.heap.size)
    (h : ∀ v' w', w'.ownsRow base 22 1 v' (n + m) (wv (xs ++ ws)) → Below base w w' → wpList Try.prog ops Q rest (a.put o.dst v') w') :
    wpList Try.prog ops Q (o :: rest) a w := by
  obtain ⟨i0, hi, hz0, hz1, hz2⟩ := info_parts infoW
  rcases A with _ | ad
  · have hm : m = 0 := by
      rcases Nat.eq_zero_or_pos m with h0 | h0
      · exact h0
      · obtain ⟨_, e, _⟩ := hB.at_ 0 h0
        cases e
    subst hm
    have hz : ws = [] := List.eq_nil_of_length_eq_zero hB.len
    subst hz
    refine wpList_plain hgd fun K hK => ?_
    have hr := run_append_own_nil (ty := o.type) (c := cap) hown
    unfold Oper.wp execOp
    simp only [ho, resolve, invoke, builtin, Sem.run_bind, Sem.run_pure, Result.andThen_ok, List.map_toArray, List.map_cons, List.map_nil, hs, hx, hr]
    exact hK _ _ (h v w (by simpa using hown) (Below.refl _ _))
  · refine wpList_append_own _ hgd s x 48 ho base 22 i0 (.int .u64 0) 1 8 Try.underlying48 hi hz0 hz1 hz2 rfl (by decide) v n (wv xs) hs hown ad m cap (wv ws) hx (by rw [wv_len, hB.len, Nat.mul_one]) hB.cells (wv_one ws) (by unfold maxLen; omega) (by omega) hb ?_
    intro v' w' h1 h2 _
    rw [← wv_app] at h1
    exact h v' w' h1 (below_of_grown hown hb h2)

/-- what the slice reads as, now and later: a string -/
def StrAt (w : World) (A : Option Addr) (n c : Nat) (s : ByteArray) : Prop := ∀ W : World, Below w.heap.size w W → (convert 23 9 (.slice A n c)).run Try.prog W = .ok (.string s) W
theorem StrAt.of {w : World} {A : Option Addr} {n c : Nat} {zs : List Int} {s : ByteArray} (h : Bytes w A n zs) (hs : strOfNums zs = s) : StrAt w A n c s := fun W hb => by
  rw [← hs]; exact conv_bytes (h.below hb)
theorem StrAt.now {w : World} {A : Option Addr} {n c : Nat} {s : ByteArray} (h : StrAt w A n c s) : (convert 23 9 (.slice A n c)).run Try.prog w = .ok (.string s) w := h w (Below.refl _ _)
theorem StrAt.below {w w' : World} {A : Option Addr} {n c : Nat} {s : ByteArray} (h : StrAt w A n c s) (hb : Below w.heap.size w w') : StrAt w' A n c s := fun W hW => h W (hb.trans (hW.mono hb.size))

theorem words_str (A : Option Addr) (n cap : Nat) (ws : List (BitVec 64)) (s : ByteArray) (w : World) (hw : Ws w A n ws) (hs : strOfNums (wsBytes ws) = s) (hn : n ≤ 1000000000000) :
    Calls Try.prog 20 #[.slice A n cap] w fun e w' => ∃ A' c', e = .returned (.slice A' (8 * n) c') ∧ StrAt w' A' (8 * n) c' s ∧ Below w.heap.size w w' := by
  refine (words_any A n cap ws w hw hn).mono ?_
  rintro e w' ⟨v, rfl, ho, hb⟩
  obtain ⟨A', c', rfl, _, _, hB⟩ := own_bytes ho (wsBytes_rng _)
  exact ⟨A', c', rfl, .of hB hs, hb⟩
theorem wordsR_str (A : Option Addr) (n cap : Nat) (ws : List (BitVec 64)) (s : ByteArray) (w : World) (hw : Ws w A n ws) (hs : strOfNums (wsBytes ws) = s) (hn : n ≤ 1000000000000) :
    Calls Try.prog 21 #[.slice A n cap] w fun e w' => ∃ A' c', e = .returned (.slice A' (8 * n) c') ∧ StrAt w' A' (8 * n) c' s ∧ Below w.heap.size w w' := by
  refine (wordsR_any A n cap ws w hw hn).mono ?_
  rintro e w' ⟨v, rfl, ho, hb⟩
  obtain ⟨A', c', rfl, _, _, hB⟩ := own_bytes ho (wsBytes_rng _)
  exact ⟨A', c', rfl, .of hB hs, hb⟩
theorem strOf_app (a b : List Int) : strOfNums a ++ strOfNums b = strOfNums (a ++ b) := by
  apply ByteArray.ext
  simp [strOfNums]
end Go.Proofs.Ytgfcbgnlkiebhaa
