import Derived.Test.YtepinmeidjlmmaaDoorA3
import Derived.Deep.RegionHeld3
import Derived.Lib.AppendStr
namespace Go.Proofs.YtepinmeidjlmmaaDoor
open Go.RowKit

/-- append(b, s...) of a string's bytes, b the call's own -/
theorem app_str {ops : Array Oper} {rest : List Oper} {o : Oper} {a : Act} {Q : Exit → Act → World → Prop} {w : World} (hgd : o.guard = none) (sl x : Operand)
    (ho : o.op = .call { callee := .builtin .append, args := #[sl, x], argTypes := #[25, 9] })
    (base : Nat) (v : Value) (n : Nat) (xs : List Value) (s : ByteArray) (hown : w.ownsRow base 5 1 v n xs) (hs : a.eval sl = v)
    (hx : a.eval x = .string s) (hn : n ≤ 1000000000) (hsz : s.size ≤ 1000000000) (hb : base ≤ w.heap.size)
    (h : ∀ v' w', w'.ownsRow base 5 1 v' (n + s.size) (xs ++ Lib.strCells s) → Below base w w' → KeptT 5 w w' → wpList Tryd.prog ops Q rest (a.put o.dst v') w') :
    wpList Tryd.prog ops Q (o :: rest) a w := by
  obtain ⟨i0, hi, hz0, hz1, hz2⟩ := info_parts info5
  refine Lib.wpList_append_own_string _ hgd sl x 25 9 ho base 5 i0 Tryd.underlying25 Tryd.underlying9 hi hz0 hz1 hz2 v n xs hs hown s hx (by unfold maxLen; omega) (by omega) hb ?_
  intro v' w' h1 h2 _
  exact h v' w' h1 (below_of_grown hown hb h2) (KeptT.grown hown h2)

def dataI (d : ByteArray) : List Int := d.data.toList.map fun b => (b.toNat : Int)
theorem dataI_cells (d : ByteArray) : bv (dataI d) = Lib.strCells d := by simp [bv, dataI, Lib.strCells]
def encItem (k n : Int) (d : ByteArray) : List Int := if k = 7 then [244 + n] else if k = 8 then [246] else encHead (k - 1) (argN k n d) ++ dataI d

set_option maxRecDepth 100000 in
set_option maxHeartbeats 400000 in
theorem appendItem_bool (base : Nat) (n : Int) (d : ByteArray) (v : Value) (len : Nat) (xs : List Value) (w : World) (hown : w.ownsRow base 5 1 v len xs) (hb : base ≤ w.heap.size) (hl : len ≤ 1000000) (hn0 : 0 ≤ n) (hn1 : n ≤ 1) :
    Calls Tryd.prog 37 #[v, itemV 7 n d] w (HeadPost base w (len + 1) (xs ++ [.int .u8 (244 + n)])) := by
  unfold itemV
  go_enter Tryd.func37, Tryd.ntmps37
  go_wp2_with (at_builtin; (refine app_byte rfl _ _ rfl base v len xs _ (hown.alloc _) rfl _ rfl (by simp) (by omega) (by simp; omega) ?_); intro v' w' ho' hbl hkt)
  go_ret
  exact ⟨v', rfl, ho', ((Below.refl base w).alloc hb _).trans hbl, ((KeptT.refl 5 w).alloc _).trans hkt⟩

set_option maxRecDepth 100000 in
set_option maxHeartbeats 400000 in
theorem appendItem_null (base : Nat) (n : Int) (d : ByteArray) (v : Value) (len : Nat) (xs : List Value) (w : World) (hown : w.ownsRow base 5 1 v len xs) (hb : base ≤ w.heap.size) (hl : len ≤ 1000000) :
    Calls Tryd.prog 37 #[v, itemV 8 n d] w (HeadPost base w (len + 1) (xs ++ [.int .u8 246])) := by
  unfold itemV
  go_enter Tryd.func37, Tryd.ntmps37
  go_wp2_with (at_builtin; (refine app_byte rfl _ _ rfl base v len xs _ (hown.alloc _) rfl _ rfl (by simp) (by omega) (by simp; omega) ?_); intro v' w' ho' hbl hkt)
  go_ret
  exact ⟨v', rfl, ho', ((Below.refl base w).alloc hb _).trans hbl, ((KeptT.refl 5 w).alloc _).trans hkt⟩

theorem TzTab.below {B : Nat} {w w' : World} (h : TzTab w) (hb : Below B w w') (hB : 4 ≤ B) : TzTab w' :=
  ⟨(hb.cell (p := ⟨3, 0, none⟩) (by show 3 < B; omega)).trans h.z0, (hb.cell (p := ⟨3, 1, none⟩) (by show 3 < B; omega)).trans h.z1, (hb.cell (p := ⟨3, 3, none⟩) (by show 3 < B; omega)).trans h.z3, (hb.cell (p := ⟨3, 7, none⟩) (by show 3 < B; omega)).trans h.z7, Nat.le_trans h.hs hb.size⟩

theorem TzTab.drew {w : World} (h : TzTab w) : TzTab w.drew := ⟨h.z0, h.z1, h.z3, h.z7, h.hs⟩

set_option maxRecDepth 100000 in
set_option maxHeartbeats 1000000 in
theorem appendItem_plain (base : Nat) (k n : Int) (d : ByteArray) (v : Value) (len : Nat) (xs : List Value) (w : World) (ht : TzTab w) (hown : w.ownsRow base 5 1 v len xs) (hb : base ≤ w.heap.size) (hl : len ≤ 900000) (hn0 : 0 ≤ n) (hk0 : 1 ≤ k) (hk1 : k ≤ 6) (hd : d.size ≤ 1100) :
    Calls Tryd.prog 37 #[v, itemV k n d] w (HeadPost base w (len + ((encHead (k - 1) (argN k n d)).length + d.size)) (xs ++ bv (encHead (k - 1) (argN k n d) ++ dataI d))) := by
  unfold itemV
  have hk2 : 0 ≤ k - 1 := by omega
  have hk3 : k - 1 ≤ 5 := by omega
  have hsum : IntKind.i64.wrap (k - 1) = k - 1 := IntWalk.i64_in _ (by omega)
  have hdm : d.size ≤ maxLen := by unfold maxLen; omega
  have harg : 0 ≤ argN k n d := by unfold argN; split <;> omega
  have hl' : len ≤ 1000000 := by omega
  have htt : TzTab ((w.alloc (.cells #[.int .i64 k, .int .u64 n, .string d] 58)).alloc (.cells #[.int .i64 k, .int .u64 n, .string d] 58)) := ht.below (((Below.refl _ w).alloc (Nat.le_refl _) _).alloc (by simp) _) ht.hs
  go_enter Tryd.func37, Tryd.ntmps37
  go_wp2_with fail
  go_region_held3 (fun W => W.heap[w.heap.size]? = some (.cells (itemCs k n d) 58 (0, 0)) ∧ W.cell? ⟨w.heap.size, 0, none⟩ = some (.int .i64 k) ∧ W.cell? ⟨w.heap.size, 1, none⟩ = some (.int .u64 n) ∧ W.cell? ⟨w.heap.size, 2, none⟩ = some (.string d))
    (first | (go_keep; done) | (refine ⟨?_, ?_, ?_, ?_⟩; (first | exact heap_new _ _ | exact heap_new2 _ _ _); go_keep; go_keep; go_keep) | (go_split_ands; exact kept_item hkt (by decide) (by assumption)))
    (first | (go_at_call 53; refine (argument_any _ _ _ _ hdm).mono ?_; rintro e w' ⟨rfl, rfl⟩) | (go_at_call 52; refine (head_any base _ _ v len xs _ (by exact htt.drew) (by exact ((hown.alloc _).alloc _)) (by simp; omega) hl' harg hk2 hk3).mono ?_; rintro e w' ⟨v', rfl, ho', hbl, hkt⟩))
  have hlen9 := encHead_len (k - 1) (argN k n d)
  have hbb : base ≤ w'.heap.size := by have h1 := hkt.size; simp at h1; omega
  go_split_ands
  go_wp2_with (at_builtin; refine app_str rfl _ _ rfl base v' _ _ d ho' rfl rfl (by omega) (by omega) hbb ?_; intro v2 w2 ho2 hb2 hk2)
  go_ret
  exact ⟨v2, rfl, by rw [bv_app, dataI_cells, ← List.append_assoc, ← Nat.add_assoc]; exact ho2, ((((Below.refl base w).alloc hb _).alloc (by simp; omega) _).drew.trans hbl).trans hb2, ((((KeptT.refl 5 w).alloc _).alloc _).drew.trans hkt).trans hk2⟩

theorem encItem7 (n : Int) (d : ByteArray) : encItem 7 n d = [244 + n] := rfl
theorem encItem8 (n : Int) (d : ByteArray) : encItem 8 n d = [246] := rfl
theorem encItemP {k n : Int} {d : ByteArray} (h1 : k ≤ 6) : encItem k n d = encHead (k - 1) (argN k n d) ++ dataI d := by
  unfold encItem; rw [if_neg (by omega), if_neg (by omega)]
theorem dataI_len (d : ByteArray) : (dataI d).length = d.size := by simp [dataI]

/-- appending the encoding of an item without errors -/
theorem appendItem_any (base : Nat) (k n : Int) (d : ByteArray) (v : Value) (len : Nat) (xs : List Value) (w : World) (ht : TzTab w) (hown : w.ownsRow base 5 1 v len xs) (hb : base ≤ w.heap.size) (hl : len ≤ 900000) (hn0 : 0 ≤ n) (hk0 : 1 ≤ k) (hk1 : k ≤ 8) (h7 : k = 7 → n ≤ 1) (hd : d.size ≤ 1100) :
    Calls Tryd.prog 37 #[v, itemV k n d] w (HeadPost base w (len + (encItem k n d).length) (xs ++ bv (encItem k n d))) := by
  by_cases e7 : k = 7
  · subst e7
    exact appendItem_bool base n d v len xs w hown hb (by omega) hn0 (h7 rfl)
  by_cases e8 : k = 8
  · subst e8
    exact appendItem_null base n d v len xs w hown hb (by omega)
  · rw [encItemP (by omega), List.length_append, dataI_len]
    exact appendItem_plain base k n d v len xs w ht hown hb hl hn0 hk0 (by omega) hd
end Go.Proofs.YtepinmeidjlmmaaDoor
