/- The reference's Derive. -/
import Derived.Test.YtgoajnljgbcmdaaSipK
namespace Go.Proofs.Ytgoajnljgbcmdaa
open Go.RowKit
set_option maxRecDepth 100000

theorem conv_row (w : World) (s : ByteArray) (hs : s.size ≤ 100000000000000) :
    ∃ v w1, (convert 9 22 (.string s)).run Try.prog w = .ok v w1 ∧ Row w1 w.heap.size v s.size (dataI s) ∧ Below w.heap.size w w1 := by
  have hr := run_bytes_of_string (P := Try.prog) w 9 22 5 s Try.underlying9 Try.underlying22 Try.underlying5
  have hge : s.size ≤ grownCap w s.size 0 5 := grownCap_ge w s.size 0 5
  have hmx : grownCap w s.size 0 5 ≤ maxLen := grownCap_le_maxLen w s.size 0 5 (by unfold maxLen; omega)
  generalize grownCap w s.size 0 5 = c at *
  have hsz : (bytesRow s c).size = c := by simp [bytesRow]; omega
  rw [hsz] at hr
  have hh : (w.drew.alloc (.cells (bytesRow s c) 5 (c, c + 1))).heap[w.heap.size]? = some (.cells (bytesRow s c) 5 (c, c + 1)) := heap_alloc_new w.drew _
  refine ⟨_, _, hr, ⟨dataI_len s, .inr ⟨w.heap.size, c, rfl, Nat.le_refl _, by simp, hge, hmx, fun j hj => ?_, fun j hj => ⟨?_, ?_⟩⟩⟩, ((Below.refl _ w).drew).alloc (Nat.le_refl _) _⟩
  · rw [cell_of_row _ w.heap.size j _ _ _ hh]
    have hj2 : j < (s.data.map (fun b => Value.int .u8 b.toNat)).size := by simpa using hj
    simp only [bytesRow]
    rw [Array.getElem?_append_left hj2]
    simp only [Array.getElem?_map, dataI, List.getD, List.getElem?_map, Array.getElem?_toList]
    rw [Array.getElem?_eq_getElem (by simpa using hj)]
    rfl
  · rw [cell_of_row _ w.heap.size j _ _ _ hh]
    simp [hsz, hj]
  · have hh2 := hh
    simp only [World.frozen?, hh2]
    simp; omega

/-- append(b, u) of a byte onto a row -/
theorem app_row1 {ops : Array Oper} {rest : List Oper} {o : Oper} {a : Act} {Q : Exit → Act → World → Prop} {w : World} (hgd : o.guard = none) (s x : Operand)
    (ho : o.op = .call { callee := .builtin .append, args := #[s, x], argTypes := #[22, 22] })
    (base : Nat) (v : Value) (n : Nat) (xs : List Int) (A : Addr) (m cap : Nat) (zs : List Int) (hown : Row w base v n xs) (hs : a.eval s = v)
    (hB : Bytes w (some A) m zs) (hx : a.eval x = .slice (some A) m cap) (hn : n + m ≤ 100000000000000) (hb : base ≤ w.heap.size)
    (h : ∀ v' w', Row w' base v' (n + m) (xs ++ zs) → Below base w w' → wpList Try.prog ops Q rest (a.put o.dst v') w') :
    wpList Try.prog ops Q (o :: rest) a w := by
  refine wpList_plain hgd fun K hK => ?_
  obtain ⟨v', w', hr, h2, h3⟩ := run_append_row (ty := o.type) (cap := cap) hown hB hn hb
  unfold Oper.wp execOp
  simp only [ho, resolve, invoke, builtin, Sem.run_bind, Sem.run_pure, Result.andThen_ok, List.map_toArray, List.map_cons, List.map_nil, hs, hx, hr]
  exact hK _ _ (h v' w' h2 h3)
theorem one_byte (w : World) (z : Int) (h0 : 0 ≤ z ∧ z ≤ 255) : Bytes (w.alloc (.cells #[.int .u8 z] 5)) (some ⟨w.heap.size, 0, none⟩) 1 [z] :=
  ⟨rfl, fun y hy => by simp at hy; subst hy; exact h0, fun i hi => ⟨_, rfl, by
    obtain rfl : i = 0 := by omega
    exact cell_one_new w (.int .u8 z) 5 0 _ rfl⟩⟩

end Go.Proofs.Ytgoajnljgbcmdaa
