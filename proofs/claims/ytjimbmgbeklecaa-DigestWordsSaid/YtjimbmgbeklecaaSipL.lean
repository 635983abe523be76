/- The reference's Derive. -/
import Derived.Test.YtjimbmgbeklecaaSipK
namespace Go.Proofs.Ytjimbmgbeklecaa
open Go.RowKit
set_option maxRecDepth 100000

theorem conv_row (w : World) (s : ByteArray) (hs : s.size ≤ 100000000000000) :
    ∃ v w1, (convert 9 23 (.string s)).run Try.prog w = .ok v w1 ∧ Row w1 w.heap.size v s.size (dataI s) ∧ Below w.heap.size w w1 := by
  have hr := run_bytes_of_string (P := Try.prog) w 9 23 5 s Try.underlying9 Try.underlying23 Try.underlying5
  have hge : s.size ≤ grownCap w s.size 0 5 := grownCap_ge w s.size 0 5
  have hmx : grownCap w s.size 0 5 ≤ maxLen := grownCap_le_maxLen w s.size 0 5 (by unfold maxLen; omega)
  generalize grownCap w s.size 0 5 = c at *
  have hsz : (bytesRow s c).size = c := by simp [bytesRow]; omega
  rw [hsz] at hr
  have hh : (w.drew.alloc (.cells (bytesRow s c) 5 (c, c + 1))).heap[w.heap.size]? = some (.cells (bytesRow s c) 5 (c, c + 1)) := heap_alloc_new w.drew _
  refine ⟨_, _, hr, ⟨dataI_len s, .inr ⟨w.heap.size, c, rfl, Nat.le_refl _, by simp, hge, hmx, fun j hj => ?_, fun j hj => ⟨?_, ?_⟩⟩⟩, ((Below.refl _ w).drew).alloc (Nat.le_refl _) _⟩
  · rw [cell_of_row _ w.heap.size j _ _ _ hh]
    have hj2 : j < (s.data.map (fun b => Value.int .u8 b.toNat)).size := by simpa using hj
    simp only [bytesRow]
    rw [Array.getElem?_append_left hj2]
    simp only [Array.getElem?_map, dataI, List.getD, List.getElem?_map, Array.getElem?_toList]
    rw [Array.getElem?_eq_getElem (by simpa using hj)]
    rfl
  · rw [cell_of_row _ w.heap.size j _ _ _ hh]
    simp [hsz, hj]
  · have hh2 := hh
    simp only [World.frozen?, hh2]
    simp; omega

/-- append(b, u) of a byte onto a row -/
theorem app_row1 {ops : Array Oper} {rest : List Oper} {o : Oper} {a : Act} {Q : Exit → Act → World → Prop} {w : World} (hgd : o.guard = none) (s x : Operand)
    (ho : o.op = .call { callee := .builtin .append, args := #[s, x], argTypes := #[23, 23] })
    (base : Nat) (v : Value) (n : Nat) (xs : List Int) (A : Addr) (m cap : Nat) (zs : List Int) (hown : Row w base v n xs) (hs : a.eval s = v)
    (hB : Bytes w (some A) m zs) (hx : a.eval x = .slice (some A) m cap) (hn : n + m ≤ 100000000000000) (hb : base ≤ w.heap.size)
    (h : ∀ v' w', Row w' base v' (n + m) (xs ++ zs) → Below base w w' → wpList Try.prog ops Q rest (a.put o.dst v') w') :
    wpList Try.prog ops Q (o :: rest) a w := by
  refine wpList_plain hgd fun K hK => ?_
  obtain ⟨v', w', hr, h2, h3⟩ := run_append_row (ty := o.type) (cap := cap) hown hB hn hb
  unfold Oper.wp execOp
  simp only [ho, resolve, invoke, builtin, Sem.run_bind, Sem.run_pure, Result.andThen_ok, List.map_toArray, List.map_cons, List.map_nil, hs, hx, hr]
  exact hK _ _ (h v' w' h2 h3)
theorem one_byte (w : World) (z : Int) (h0 : 0 ≤ z ∧ z ≤ 255) : Bytes (w.alloc (.cells #[.int .u8 z] 5)) (some ⟨w.heap.size, 0, none⟩) 1 [z] :=
  ⟨rfl, fun y hy => by simp at hy; subst hy; exact h0, fun i hi => ⟨_, rfl, by
    obtain rfl : i = 0 := by omega
    exact cell_one_new w (.int .u8 z) 5 0 _ rfl⟩⟩

set_option maxHeartbeats 1000000 in
theorem deriveR_any (x : BitVec 64) (s : ByteArray) (n : Int) (w : World) (hs : s.size ≤ 100000000000) :
    Calls Try.prog 13 #[.int .u64 (val x), .string s, .int .i64 n] w fun e w' => e = .returned (.int .u64 (val (sipDerive x s n))) ∧ Below w.heap.size w w' := by
  obtain ⟨v1, w1, hcv, hrow, hb1⟩ := conv_row w s (by omega)
  have hsz1 := hb1.size
  have HB1 := Lib.hid hb1
  have HR1 := Lib.hid hrow
  clear hb1 hrow
  go_enter Try.func13, Try.ntmps13
  go_wp2_with (first
    | (at_builtin; refine app_row1 rfl _ _ rfl w.heap.size v1 _ (dataI s) ⟨w1.heap.size, 0, none⟩ 1 1 [0] (HR1.out.alloc _) rfl (one_byte w1 0 (by omega)) rfl (by omega) (by simp; omega) ?_; intro v2 w2 hr2 hb2; have HR2 := Lib.hid hr2; have HB2 := Lib.hid hb2; clear hr2 hb2)
    | fail)
  have hsz2 : w.heap.size ≤ w2.heap.size := by have := HB2.out.size; simp at this; omega
  have hb12 := (HB1.out.alloc hsz1 (.cells #[.int .u8 0] 5)).trans HB2.out
  rw [val_wrap]
  refine (wordsR_any _ 1 1 [BitVec.ofInt 64 n] _ (Ws.one w2 _) (by omega)).mono ?_
  rintro e w4 ⟨v4, rfl, ho4, hb4⟩
  obtain ⟨A4, cap4, rfl, _, _, hB4⟩ := own_bytes ho4 (wsBytes_rng _)
  obtain ⟨a4, rfl, _⟩ := hB4.at_ 0 (by omega)
  have hr4 := (HR2.out.alloc (.cells #[.int .u64 (val (BitVec.ofInt 64 n))] 22)).below hb4
  have hb14 := hb12.trans ((((Below.refl _ w2).alloc (Nat.le_refl _) _).trans (hb4.mono (by simp))).mono hsz2)
  have hsz4 := hb14.size
  have HB14 := Lib.hid hb14
  have HR4 := Lib.hid hr4
  have HB4 := Lib.hid hB4
  clear hb14 hr4 hB4 ho4 hb4 hb12
  go_wp2_with (first
    | (at_builtin; refine app_row1 rfl _ _ rfl w.heap.size v2 _ (dataI s ++ [0]) a4 _ cap4 (wsBytes [BitVec.ofInt 64 n]) HR4.out rfl HB4.out rfl (by omega) hsz4 ?_; intro v5 w5 hr5 hb5)
    | fail)
  obtain ⟨A5, cap5, rfl, h51, h52, hB5⟩ := hr5.bytes (deriveBytes_rng s n)
  clear hr5
  have hB5' : Bytes w5 A5 (s.size + 1 + 8 * 1) (deriveBytes s n) := hB5
  clear hB5
  have HM := Lib.hid (macR_any x 4 A5 _ cap5 _ _ hB5' (by omega))
  rw [show sipMac x 4 (deriveBytes s n) = sipDerive x s n from rfl] at HM
  refine HM.out.mono ?_
  rintro e w6 ⟨rfl, hb6⟩
  go_wp2
  go_ret
  exact ⟨rfl, (HB14.out.trans hb5).trans (hb6.mono (Nat.le_trans hsz4 hb5.size))⟩
end Go.Proofs.Ytjimbmgbeklecaa
