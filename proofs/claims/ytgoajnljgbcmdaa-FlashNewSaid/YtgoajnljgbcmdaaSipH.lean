/- Words as bytes, of the program and of the reference. -/
import Derived.Test.YtgoajnljgbcmdaaSipG
import Derived.Lib.AppendStr
namespace Go.Proofs.Ytgoajnljgbcmdaa
open Go.RowKit
set_option maxRecDepth 100000

theorem infoB : (Try.prog.info? 5).map (fun i => (i.zero, i.size, i.bytes)) = some (some (.int .u8 0), 1, 1) := by kernel_rfl
def bv (l : List Int) : List Value := l.map (Value.int .u8)
theorem bv_app (a b : List Int) : bv (a ++ b) = bv a ++ bv b := by simp [bv]
theorem bv_len (a : List Int) : (bv a).length = a.length := by simp [bv]
theorem below_of_grown {base e size n : Nat} {w w' : World} {v : Value} {xs : List Value} (hown : w.ownsRow base e size v n xs) (hb : base ≤ w.heap.size) (hg : w.grownBy w' v.ownBlock) : Below base w w' :=
  (Below.refl base w).grown hg hb fun k hk => (hown.lt k hk).1

/-- append(b, u) of a byte, b the call's own -/
theorem app_byte {ops : Array Oper} {rest : List Oper} {o : Oper} {a : Act} {Q : Exit → Act → World → Prop} {w : World} (hgd : o.guard = none) (s x : Operand)
    (ho : o.op = .call { callee := .builtin .append, args := #[s, x], argTypes := #[22, 22] })
    (base : Nat) (v : Value) (n : Nat) (xs : List Value) (u : Int) (hown : w.ownsRow base 5 1 v n xs) (hs : a.eval s = v)
    (B : Nat) (hx : a.eval x = .slice (some ⟨B, 0, none⟩) 1 1) (hB : B = w.heap.size) (hn : n ≤ 100000000000000) (hb : base ≤ w.heap.size)
    (h : ∀ v' w', w'.ownsRow base 5 1 v' (n + 1) (xs ++ [.int .u8 u]) → Below base w w' → wpList Try.prog ops Q rest (a.put o.dst v') w') :
    wpList Try.prog ops Q (o :: rest) a (w.alloc (.cells #[.int .u8 u] 5)) := by
  subst hB
  obtain ⟨i0, hi, hz0, hz1, hz2⟩ := info_parts infoB
  refine wpList_append_own _ hgd s x 22 ho base 5 i0 (.int .u8 0) 1 1 Try.underlying22 hi hz0 hz1 hz2 rfl (by decide) v n xs hs (hown.alloc _) ⟨w.heap.size, 0, none⟩ 1 1 [.int .u8 u] hx rfl (cell_one_new _ _ _) (by simp [Value.oneCell']) (by unfold maxLen; omega) (by omega) (by simp; omega) ?_
  intro v' w' h1 h2 _
  exact h v' w' h1 (((Below.refl base w).alloc hb _).trans (below_of_grown (hown.alloc _) (by simp; omega) h2))

/-- a slice value that holds the words ws -/
structure Ws (w : World) (A : Option Addr) (n : Nat) (ws : List (BitVec 64)) : Prop where
  len : ws.length = n
  at_ : ∀ i, i < n → ∃ a, A = some a ∧ w.cell? (a.add i) = some (.int .u64 (val (ws.getD i 0)))
theorem Ws.below {w w' : World} {A : Option Addr} {n : Nat} {ws : List (BitVec 64)} (h : Ws w A n ws) (hb : Below w.heap.size w w') : Ws w' A n ws :=
  ⟨h.len, fun i hi => by
    obtain ⟨a, e, hc⟩ := h.at_ i hi
    exact ⟨a, e, (hb.cell (cell_in hc)).trans hc⟩⟩
theorem Ws.one (w : World) (x : BitVec 64) : Ws (w.alloc (.cells #[.int .u64 (val x)] 64)) (some ⟨w.heap.size, 0, none⟩) 1 [x] :=
  ⟨rfl, fun i hi => ⟨_, rfl, by
    obtain rfl : i = 0 := by omega
    exact cell_one_new w (.int .u64 (val x)) 64 0 _ rfl⟩⟩

/-- byte k of a word, the most significant one first -/
def wb (x : BitVec 64) (k : Nat) : Int := val (x >>> (8 * (7 - k))) % 256
def wbs (x : BitVec 64) (k : Nat) : List Int := (List.range k).map (wb x)
theorem wbs_succ (x : BitVec 64) (k : Nat) : wbs x (k + 1) = wbs x k ++ [wb x k] := by simp [wbs, List.range_succ]
theorem wbs_len (x : BitVec 64) (k : Nat) : (wbs x k).length = k := by simp [wbs]
def wsBytes (ws : List (BitVec 64)) : List Int := ws.flatMap fun x => wbs x 8
theorem wsBytes_app (a b : List (BitVec 64)) : wsBytes (a ++ b) = wsBytes a ++ wsBytes b := by simp [wsBytes]
theorem wsBytes_len : ∀ ws : List (BitVec 64), (wsBytes ws).length = 8 * ws.length
  | [] => rfl
  | x :: r => by
    have := wsBytes_len r
    simp only [wsBytes, List.flatMap_cons, List.length_append, wbs_len, List.length_cons] at this ⊢
    omega
theorem wb_lo (x : BitVec 64) (k : Nat) : 0 ≤ wb x k ∧ wb x k ≤ 255 := by unfold wb; omega
theorem wsBytes_rng (ws : List (BitVec 64)) : ∀ z ∈ wsBytes ws, 0 ≤ z ∧ z ≤ 255 := by
  intro z hz
  simp only [wsBytes, List.mem_flatMap, wbs, List.mem_map] at hz
  obtain ⟨x, _, k, _, rfl⟩ := hz
  exact wb_lo x k
theorem wsBytes_take {ws : List (BitVec 64)} {i : Nat} (h : i < ws.length) : wsBytes (ws.take (i + 1)) = wsBytes (ws.take i) ++ wbs (ws.getD i 0) 8 := by
  rw [List.take_succ_eq_append_getElem h, wsBytes_app]
  simp [wsBytes, List.getD, List.getElem?_eq_getElem h]
theorem wb_eq (x : BitVec 64) (k : Nat) : val x / 2 ^ (8 * (7 - k)) % 256 = wb x k := by
  rw [val_shr]; rfl

end Go.Proofs.Ytgoajnljgbcmdaa
