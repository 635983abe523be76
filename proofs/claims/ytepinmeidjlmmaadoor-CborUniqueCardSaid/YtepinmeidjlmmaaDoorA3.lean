import Derived.Test.YtepinmeidjlmmaaDoorA1
import Derived.Test.YtepinmeidjlmmaaDoorW
namespace Go.Proofs.YtepinmeidjlmmaaDoor
open Go.RowKit

structure TzTab (w : World) : Prop where
  z0 : w.cell? ⟨3, 0, none⟩ = some (.int .u8 0)
  z1 : w.cell? ⟨3, 1, none⟩ = some (.int .u8 1)
  z3 : w.cell? ⟨3, 3, none⟩ = some (.int .u8 2)
  z7 : w.cell? ⟨3, 7, none⟩ = some (.int .u8 3)
  hs : 4 ≤ w.heap.size

set_option maxRecDepth 100000 in
set_option maxHeartbeats 400000 in
theorem tz1 (w : World) (h : TzTab w) :
    Calls Tryd.prog 76 #[.int .u64 1] w fun e w' => e = .returned (.int .i64 0) ∧ w = w' := by
  have h0 := h.z0
  have b1 : bits BinOp.and IntKind.u64 1 (IntKind.u64.wrap (-1)) = 1 := by decide +kernel
  clear h
  go_enter Tryd.func76, Tryd.ntmps76
  go_wp2
  go_ret
  exact ⟨rfl, rfl⟩
set_option maxRecDepth 100000 in
set_option maxHeartbeats 400000 in
theorem tz2 (w : World) (h : TzTab w) :
    Calls Tryd.prog 76 #[.int .u64 2] w fun e w' => e = .returned (.int .i64 1) ∧ w = w' := by
  have h0 := h.z1
  have b1 : bits BinOp.and IntKind.u64 2 (IntKind.u64.wrap (-2)) = 2 := by decide +kernel
  clear h
  go_enter Tryd.func76, Tryd.ntmps76
  go_wp2
  go_ret
  exact ⟨rfl, rfl⟩
set_option maxRecDepth 100000 in
set_option maxHeartbeats 400000 in
theorem tz4 (w : World) (h : TzTab w) :
    Calls Tryd.prog 76 #[.int .u64 4] w fun e w' => e = .returned (.int .i64 2) ∧ w = w' := by
  have h0 := h.z3
  have b1 : bits BinOp.and IntKind.u64 4 (IntKind.u64.wrap (-4)) = 4 := by decide +kernel
  clear h
  go_enter Tryd.func76, Tryd.ntmps76
  go_wp2
  go_ret
  exact ⟨rfl, rfl⟩
set_option maxRecDepth 100000 in
set_option maxHeartbeats 400000 in
theorem tz8 (w : World) (h : TzTab w) :
    Calls Tryd.prog 76 #[.int .u64 8] w fun e w' => e = .returned (.int .i64 3) ∧ w = w' := by
  have h0 := h.z7
  have b1 : bits BinOp.and IntKind.u64 8 (IntKind.u64.wrap (-8)) = 8 := by decide +kernel
  clear h
  go_enter Tryd.func76, Tryd.ntmps76
  go_wp2
  go_ret
  exact ⟨rfl, rfl⟩
theorem info5 : (Tryd.prog.info? 5).map (fun i => (i.zero, i.size, i.bytes)) = some (some (.int .u8 0), 1, 1) := by kernel_rfl

/-- append(b, x) of one byte, b the call's own -/
theorem app_byte {ops : Array Oper} {rest : List Oper} {o : Oper} {a : Act} {Q : Exit → Act → World → Prop} {w : World} (hgd : o.guard = none) (s x : Operand)
    (ho : o.op = .call { callee := .builtin .append, args := #[s, x], argTypes := #[25, 25] })
    (base : Nat) (v : Value) (n : Nat) (xs : List Value) (u : Int) (hown : w.ownsRow base 5 1 v n xs) (hs : a.eval s = v)
    (B : Nat) (hx : a.eval x = .slice (some ⟨B, 0, none⟩) 1 1) (hB : B = w.heap.size) (hn : n ≤ 1000000000) (hb : base ≤ w.heap.size)
    (h : ∀ v' w', w'.ownsRow base 5 1 v' (n + 1) (xs ++ [.int .u8 u]) → Below base w w' → KeptT 5 w w' → wpList Tryd.prog ops Q rest (a.put o.dst v') w') :
    wpList Tryd.prog ops Q (o :: rest) a (w.alloc (.cells #[.int .u8 u] 5)) := by
  subst hB
  obtain ⟨i0, hi, hz0, hz1, hz2⟩ := info_parts info5
  refine wpList_append_own _ hgd s x 25 ho base 5 i0 (.int .u8 0) 1 1 Tryd.underlying25 hi hz0 hz1 hz2 rfl (by decide) v n xs hs (hown.alloc _) ⟨w.heap.size, 0, none⟩ 1 1 [.int .u8 u] hx rfl (cell_one_new _ _ _) (by simp [Value.oneCell']) (by unfold maxLen; omega) (by omega) (by simp; omega) ?_
  intro v' w' h1 h2 _
  exact h v' w' h1 (((Below.refl base w).alloc hb _).trans (below_of_grown (hown.alloc _) (by simp; omega) h2)) (((KeptT.refl 5 w).alloc _).trans (KeptT.grown (hown.alloc _) h2))

def beByte (n : Int) (s i : Nat) : Int := n / (2 : Int) ^ (8 * (s - 1 - i)) % 256
def beBytes (n : Int) (s k : Nat) : List Int := (List.range k).map (beByte n s)
theorem beBytes_succ (n : Int) (s k : Nat) : beBytes n s (k + 1) = beBytes n s k ++ [beByte n s k] := by simp [beBytes, List.range_succ]
def bv (l : List Int) : List Value := l.map (Value.int .u8)
theorem bv_app (a b : List Int) : bv (a ++ b) = bv a ++ bv b := by simp [bv]
theorem bv_one (a : Int) : bv [a] = [.int .u8 a] := rfl
theorem bv_len (a : List Int) : (bv a).length = a.length := by simp [bv]

theorem or_head (m n : Int) (hm0 : 0 ≤ m) (hm : m ≤ 5) (hn0 : 0 ≤ n) (hn : n < 32) : bits BinOp.or IntKind.u8 (m * 32) n = m * 32 + n := by
  have key : ∀ a : Fin 6, ∀ b : Fin 32, bits BinOp.or IntKind.u8 (((a.val : Nat) : Int) * 32) ((b.val : Nat) : Int) = ((a.val : Nat) : Int) * 32 + ((b.val : Nat) : Int) := by decide +kernel
  have := key ⟨m.toNat, by omega⟩ ⟨n.toNat, by omega⟩
  simpa [Int.toNat_of_nonneg hm0, Int.toNat_of_nonneg hn0] using this

def HeadPost (base : Nat) (w : World) (n : Nat) (xs : List Value) (e : Ending) (w' : World) : Prop := ∃ v', e = .returned v' ∧ w'.ownsRow base 5 1 v' n xs ∧ Below base w w' ∧ KeptT 5 w w'

set_option maxRecDepth 100000 in
set_option maxHeartbeats 400000 in
theorem head_small (base : Nat) (m n : Int) (v : Value) (len : Nat) (xs : List Value) (w : World) (hown : w.ownsRow base 5 1 v len xs) (hb : base ≤ w.heap.size) (hl : len ≤ 1000000) (hn0 : 0 ≤ n) (hn : n < 24) (hm0 : 0 ≤ m) (hm : m ≤ 5) :
    Calls Tryd.prog 52 #[v, .int .i64 m, .int .u64 n] w (HeadPost base w (len + 1) (xs ++ [.int .u8 (m * 32 + n)])) := by
  have hsz : Calls Tryd.prog 75 #[.int .u64 n] w fun e w' => e = .returned (.int .i64 0) ∧ w = w' := by have := argSz_any n w; rwa [argSz0 hn] at this
  have HS := Lib.hid hsz
  clear hsz
  go_enter Tryd.func52, Tryd.ntmps52
  go_wp2_with (first | (go_at_call 75; refine HS.out.mono ?_; rintro e w' ⟨rfl, rfl⟩) | (at_builtin; refine app_byte rfl _ _ rfl base v len xs _ hown rfl _ rfl rfl (by omega) hb ?_; intro v' w' ho' hbl hkt))
  go_ret
  exact ⟨v', rfl, by rw [← or_head m n hm0 hm hn0 (by omega)]; exact ho', hbl, hkt⟩

set_option maxRecDepth 100000 in
set_option maxHeartbeats 400000 in
theorem head_wide (s : Nat) (lg : Int) (hs1 : 1 ≤ s) (hs8 : s ≤ 8) (hlg0 : 0 ≤ lg) (hlg : lg ≤ 3) (base : Nat) (m n : Int) (v : Value) (len : Nat) (xs : List Value) (w : World)
    (hsz : Calls Tryd.prog 75 #[.int .u64 n] w fun e w' => e = .returned (.int .i64 s) ∧ w = w')
    (htz : Calls Tryd.prog 76 #[.int .u64 s] w fun e w' => e = .returned (.int .i64 lg) ∧ w = w')
    (hown : w.ownsRow base 5 1 v len xs) (hb : base ≤ w.heap.size) (hl : len ≤ 1000000) (hn0 : 0 ≤ n) (hm0 : 0 ≤ m) (hm : m ≤ 5) :
    Calls Tryd.prog 52 #[v, .int .i64 m, .int .u64 n] w (HeadPost base w (len + 1 + s) (xs ++ [.int .u8 (m * 32 + (24 + lg))] ++ bv (beBytes n s s))) := by
  have HS := Lib.hid hsz
  have HT := Lib.hid htz
  clear hsz htz
  go_enter Tryd.func52, Tryd.ntmps52
  go_wp2_with (first | (go_at_call 75; refine HS.out.mono ?_; rintro e w' ⟨rfl, rfl⟩) | (go_at_call 76; refine HT.out.mono ?_; rintro e w' ⟨rfl, rfl⟩) | (at_builtin; refine app_byte rfl _ _ rfl base v len xs _ hown rfl _ rfl rfl (by omega) hb ?_; intro v' w' ho' hbl hkt))
  rw [or_head m (24 + lg) hm0 hm (by omega) (by omega)] at ho'
  have HN := Lib.hid hown
  clear hown
  go_loopw [0, 9] (fun v i wr => ∃ k : Nat, k ≤ s ∧ i = .int .i64 (8 * ((s : Int) - 1 - k)) ∧ wr.ownsRow base 5 1 v (len + 1 + k) (xs ++ [.int .u8 (m * 32 + (24 + lg))] ++ bv (beBytes n s k)) ∧ Below base w wr ∧ KeptT 5 w wr) (fun _ i _ => (intOf i + 8).toNat)
  case atStart => exact ⟨0, by omega, by simp, by simpa [beBytes, bv] using ho', hbl, hkt⟩
  case round =>
    obtain ⟨k, hk, rfl, hok, hbk, hkk⟩ := hrel
    clear hbl hkt ho'
    have hbr : base ≤ wr.heap.size := Nat.le_trans hb hbk.size
    by_cases hlt : k < s
    · go_wp2_with (at_builtin; (refine app_byte rfl _ _ rfl base _ (len + 1 + k) _ _ hok rfl _ rfl rfl (by omega) hbr ?_); intro v2 w2 ho2 hb2 hk2)
      go_roundw
      case rel => exact ⟨k + 1, by omega, by go_num, by rw [beBytes_succ, bv_app, ← List.append_assoc]; exact ho2, hbk.trans hb2, hkk.trans hk2⟩
      case measure => simp [intOf]; omega
    · go_wp2
      go_ret
      obtain rfl : k = s := by omega
      exact ⟨_, rfl, hok, hbk, hkk⟩

def encHead (m n : Int) : List Int :=
  if n < 24 then [m * 32 + n] else if n < 256 then (m * 32 + (24 + 0)) :: beBytes n 1 1 else if n < 65536 then (m * 32 + (24 + 1)) :: beBytes n 2 2 else if n < 4294967296 then (m * 32 + (24 + 2)) :: beBytes n 4 4 else (m * 32 + (24 + 3)) :: beBytes n 8 8
theorem encHead0 {m n : Int} (h : n < 24) : encHead m n = [m * 32 + n] := by simp only [encHead]; rw [if_pos h]
theorem encHead1 {m n : Int} (h : 24 ≤ n) (h2 : n < 256) : encHead m n = (m * 32 + (24 + 0)) :: beBytes n 1 1 := by simp only [encHead]; rw [if_neg (by omega), if_pos h2]
theorem encHead2 {m n : Int} (h : 256 ≤ n) (h2 : n < 65536) : encHead m n = (m * 32 + (24 + 1)) :: beBytes n 2 2 := by simp only [encHead]; rw [if_neg (by omega), if_neg (by omega), if_pos h2]
theorem encHead4 {m n : Int} (h : 65536 ≤ n) (h2 : n < 4294967296) : encHead m n = (m * 32 + (24 + 2)) :: beBytes n 4 4 := by simp only [encHead]; rw [if_neg (by omega), if_neg (by omega), if_neg (by omega), if_pos h2]
theorem encHead8 {m n : Int} (h : 4294967296 ≤ n) : encHead m n = (m * 32 + (24 + 3)) :: beBytes n 8 8 := by simp only [encHead]; rw [if_neg (by omega), if_neg (by omega), if_neg (by omega), if_neg (by omega)]
theorem beBytes_len (n : Int) (s k : Nat) : (beBytes n s k).length = k := by simp [beBytes]
theorem encHead_len (m n : Int) : (encHead m n).length ≤ 9 := by
  by_cases h1 : n < 24
  · rw [encHead0 h1]; simp
  by_cases h2 : n < 256
  · rw [encHead1 (by omega) h2]; simp [beBytes_len]
  by_cases h3 : n < 65536
  · rw [encHead2 (by omega) h3]; simp [beBytes_len]
  by_cases h4 : n < 4294967296
  · rw [encHead4 (by omega) h4]; simp [beBytes_len]
  · rw [encHead8 (by omega)]; simp [beBytes_len]
theorem head_shape {base s len : Nat} {w : World} {xs : List Value} {a : Int} {l : List Int} {f : FuncId} {args : Array Value} (hs : l.length = s) (h : Calls Tryd.prog f args w (HeadPost base w (len + 1 + s) (xs ++ [.int .u8 a] ++ bv l))) :
    Calls Tryd.prog f args w (HeadPost base w (len + (a :: l).length) (xs ++ bv (a :: l))) := by
  have e1 : len + (a :: l).length = len + 1 + s := by simp; omega
  have e2 : xs ++ bv (a :: l) = xs ++ [.int .u8 a] ++ bv l := by simp [bv]
  rw [e1, e2]; exact h
theorem head_any (base : Nat) (m n : Int) (v : Value) (len : Nat) (xs : List Value) (w : World) (ht : TzTab w) (hown : w.ownsRow base 5 1 v len xs) (hb : base ≤ w.heap.size) (hl : len ≤ 1000000) (hn0 : 0 ≤ n) (hm0 : 0 ≤ m) (hm : m ≤ 5) :
    Calls Tryd.prog 52 #[v, .int .i64 m, .int .u64 n] w (HeadPost base w (len + (encHead m n).length) (xs ++ bv (encHead m n))) := by
  by_cases h1 : n < 24
  · rw [encHead0 h1]
    exact head_small base m n v len xs w hown hb hl hn0 h1 hm0 hm
  have sz := argSz_any n w
  by_cases h2 : n < 256
  · rw [argSz1 (by omega) h2] at sz
    rw [encHead1 (by omega) h2]
    exact head_shape (beBytes_len _ _ _) (head_wide 1 0 (by omega) (by omega) (by omega) (by omega) base m n v len xs w sz (tz1 w ht) hown hb hl hn0 hm0 hm)
  by_cases h3 : n < 65536
  · rw [argSz2 (by omega) h3] at sz
    rw [encHead2 (by omega) h3]
    exact head_shape (beBytes_len _ _ _) (head_wide 2 1 (by omega) (by omega) (by omega) (by omega) base m n v len xs w sz (tz2 w ht) hown hb hl hn0 hm0 hm)
  by_cases h4 : n < 4294967296
  · rw [argSz4 (by omega) h4] at sz
    rw [encHead4 (by omega) h4]
    exact head_shape (beBytes_len _ _ _) (head_wide 4 2 (by omega) (by omega) (by omega) (by omega) base m n v len xs w sz (tz4 w ht) hown hb hl hn0 hm0 hm)
  · rw [argSz8 (by omega)] at sz
    rw [encHead8 (by omega)]
    exact head_shape (beBytes_len _ _ _) (head_wide 8 3 (by omega) (by omega) (by omega) (by omega) base m n v len xs w sz (tz8 w ht) hown hb hl hn0 hm0 hm)
end Go.Proofs.YtepinmeidjlmmaaDoor
