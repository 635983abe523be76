/- Signatures, of both; the public word that is recovered, of both. -/
import Derived.Test.YthgahjihgoiklaaOtF
import Derived.Test.YthgahjihgoiklaaHeld
namespace Go.Proofs.Ythgahjihgoiklaa
open Go.RowKit
set_option maxRecDepth 100000

section
variable {P : Program} {md : Region.Mode} {ops : Array Oper} {Q : Exit → Act → World → Prop} {fuel : Nat} {listed : Array Bool} {a : Act} {w : World} {S : World → Prop}
/-- one that may come up alone comes up -/
theorem heldS_call {i : Nat} {o : Oper} (hr : Region.ready md ops listed = [i]) (ho : ops[i]? = some o)
    (h : ∀ K' : Act → World → Prop, Shut (∀ a w', S w' → wpAnyH P md ops Q S fuel (listed.setIfInBounds i true) a w' → K' a w') → if Region.wanted o (yielded ops a.tmps) = true then Oper.wp P o a w K' Q else K' (a.put o.dst undef) w) :
    wpAnyH P md ops Q S (fuel + 1) listed a w := by
  refine wpAnyH_all hr (by simp) fun j hj => ?_
  obtain rfl : j = i := by simpa using hj
  refine wpOp_step ho fun K' hK => h K' fun a w' hb hh => hK a w' ⟨hb, hh⟩
/-- one that yields its value whatever comes is taken first -/
theorem heldS_take {i d : Nat} {oi : Oper} {v : Value} (hi : ops[i]? = some oi) (hd : oi.dst = some d) (hs : Region.noSelect ops = true) (hf : Region.free md ops listed i = true) (hr : (Region.ready md ops listed).contains i = true)
    (hQ : ∀ c a w, Q (.panic c) (a.put (some d) v) w → Q (.panic c) a w) (hw : Region.wanted oi (yielded ops a.tmps) = true) (hS : S w) (hy : ∀ W, S W → (execOp a.eval oi).run P W = .ok (.value v) W)
    (h : wpAnyH P md ops Q S fuel (listed.setIfInBounds i true) (a.put (some d) v) w) : wpAnyH P md ops Q S (fuel + 1) listed a w :=
  wpAnyH_take hi hs hf hr (by rw [hd]; exact hQ) (Or.inl ⟨hw, hy⟩) hS (by rw [hd]; exact h)
end

theorem step_words {ops : Array Oper} {o : Oper} {a : Act} {W : World} {K : Act → World → Prop} {Q : Exit → Act → World → Prop} {E : Prop} (hgd : o.guard = none) (s x : Operand)
    (ho : o.op = .call { callee := .builtin .append, args := #[s, x], argTypes := #[30, 30] })
    (base : Nat) (v : Value) (n : Nat) (xs : List (BitVec 64)) (u : BitVec 64) (b : Nat) (hown : W.ownsRow base 22 1 v n (wv xs)) (hs : a.eval s = v)
    (hI : Ws W (some ⟨b, 0, none⟩) 1 [u]) (hx : a.eval x = .slice (some ⟨b, 0, none⟩) 1 1) (hn : n ≤ 1000000) (hb : base ≤ W.heap.size)
    (h : ∀ v' w', w'.ownsRow base 22 1 v' (n + 1) (wv (xs ++ [u])) → Below base W w' → K (a.put o.dst v') w') :
    if Region.wanted o (yielded ops a.tmps) = true then Oper.wp Try.prog o a W K Q else E := by
  have hw : Region.wanted o (yielded ops a.tmps) = true := by simp [Region.wanted, hgd]
  rw [if_pos hw]
  obtain ⟨i0, hi, hz0, hz1, hz2⟩ := info_parts infoW
  refine wp_append_own W s x 30 ho base 22 i0 _ 1 8 Try.underlying30 hi hz0 hz1 hz2 rfl (by decide) v n _ hs hown ⟨b, 0, none⟩ 1 1 (wv [u]) hx rfl hI.cells (wv_one _) (by unfold maxLen; omega) (by omega) hb ?_
  intro v' w' h1 h2 _
  rw [← wv_app] at h1
  exact h v' w' h1 (below_of_grown hown hb h2)

def sigF (s : BitVec 64) (l : Int) (m : BitVec 64) (c : Nat) : BitVec 64 := runF l c 0 (dig m c) (secF s l c)
def recV (l : Int) (m : BitVec 64) (ws : List (BitVec 64)) (c : Nat) : BitVec 64 := runF l c (dig m c) 15 (ws.getD c 0)
def recF (l : Int) (m : BitVec 64) (ws : List (BitVec 64)) : BitVec 64 := pubF l (vals (recV l m ws))
theorem digits_at (m : BitVec 64) (k : Nat) (hk : k < 18) : (digits m).getD k 0 = dig m k := by
  simp [digits, List.getD, hk]
theorem Ns.of_below {w w' : World} {A : Option Addr} {n : Nat} {l : List Int} (h : Ns w A n l) (hb : Below w.heap.size w w') (i : Nat) (hi : i < n) : ∃ a, A = some a ∧ w'.cell? (a.add i) = some (.int .i64 (l.getD i 0)) := (h.below hb).at_ i hi

set_option maxHeartbeats 1000000 in
theorem signR_any (s : BitVec 64) (l : Int) (m : BitVec 64) (w : World) :
    Calls Try.prog 32 #[.int .u64 (val s), .int .i64 l, .int .u64 (val m)] w fun e w' => ∃ v, e = .returned v ∧ w'.ownsRow w.heap.size 22 1 v 18 (wv (vals (sigF s l m))) ∧ Below w.heap.size w w' := by
  go_enter Try.func32, Try.ntmps32
  go_wp2_with fail
  refine (splitR_any m _).mono ?_
  rintro e w0 ⟨A0, c0, rfl, hN0, hb0⟩
  have hsz0 := hb0.size
  have HN0 := Lib.hid hN0
  have HB0 := Lib.hid hb0
  clear hN0 hb0
  go_wp2
  go_loopw [8, 9] (fun v i wr => ∃ k : Nat, i = .int .i64 k ∧ k ≤ 18 ∧ wr.ownsRow w0.heap.size 22 1 v k (wv ((List.range k).map (sigF s l m))) ∧ Below w0.heap.size w0 wr) (fun _ i _ => 18 - (intOf i).toNat)
  case atStart => exact ⟨0, rfl, Nat.zero_le _, World.ownsRow_nil w0 _ _ _, Below.refl _ _⟩
  case round =>
    obtain ⟨k, rfl, hk, hO, hbk⟩ := hrel
    have hsz := hbk.size
    have HO := Lib.hid hO
    have HB := Lib.hid hbk
    clear hO hbk
    by_cases hk18 : k < 18
    · obtain ⟨a0, rfl, _⟩ := HN0.out.at_ k hk18
      go_wp2
      refine wp_region_held (S := fun W => Below w0.heap.size w0 W) (by kernel_rfl) ?_
      refine heldS_take (i := 0) (v := ?_) rfl rfl (by kernel_rfl) (by kernel_rfl) (by kernel_rfl) (fun _ _ _ h => h) (by rfl) HB.out.drew ?_ ?_
      rotate_left
      · intro W hW
        go_simp
        try with_reducible rfl
      simp only [Act.put, List.setIfInBounds_toArray, List.set_cons_zero, List.set_cons_succ]
      refine heldS_take (i := 1) (v := ?_) rfl rfl (by kernel_rfl) (by kernel_rfl) (by kernel_rfl) (fun _ _ _ h => h) (by rfl) HB.out.drew ?_ ?_
      rotate_left
      · intro W hW
        go_simp
        try with_reducible rfl
      simp only [Act.put, List.setIfInBounds_toArray, List.set_cons_zero, List.set_cons_succ]
      refine heldS_take (i := 2) (v := ?_) rfl rfl (by kernel_rfl) (by kernel_rfl) (by kernel_rfl) (fun _ _ _ h => h) (by rfl) HB.out.drew ?_ ?_
      rotate_left
      · intro W hW
        go_simp
        try with_reducible rfl
      simp only [Act.put, List.setIfInBounds_toArray, List.set_cons_zero, List.set_cons_succ]
      refine heldS_take (i := 3) (v := ?_) rfl rfl (by kernel_rfl) (by kernel_rfl) (by kernel_rfl) (fun _ _ _ h => h) (by rfl) HB.out.drew ?_ ?_
      rotate_left
      · intro W hW
        go_simp
        try with_reducible rfl
      simp only [Act.put, List.setIfInBounds_toArray, List.set_cons_zero, List.set_cons_succ]
      refine heldS_take (i := 4) (v := ?_) rfl rfl (by kernel_rfl) (by kernel_rfl) (by kernel_rfl) (fun _ _ _ h => h) (by rfl) HB.out.drew ?_ ?_
      rotate_left
      · intro W hW
        go_simp
        try with_reducible rfl
      simp only [Act.put, List.setIfInBounds_toArray, List.set_cons_zero, List.set_cons_succ]
      refine heldS_take (i := 5) (v := ?_) rfl rfl (by kernel_rfl) (by kernel_rfl) (by kernel_rfl) (fun _ _ _ h => h) (by rfl) HB.out.drew ?_ ?_
      rotate_left
      · intro W hW
        go_simp
        try with_reducible rfl
      simp only [Act.put, List.setIfInBounds_toArray, List.set_cons_zero, List.set_cons_succ]
      refine heldS_take (i := 6) (v := ?_) rfl rfl (by kernel_rfl) (by kernel_rfl) (by kernel_rfl) (fun _ _ _ h => h) (by rfl) HB.out.drew ?_ ?_
      rotate_left
      · intro W hW
        obtain ⟨a, e, hc⟩ := HN0.out.of_below hW k hk18
        cases e
        rw [digits_at m k hk18] at hc
        go_simp
        try with_reducible rfl
      simp only [Act.put, List.setIfInBounds_toArray, List.set_cons_zero, List.set_cons_succ]
      refine heldS_take (i := 7) (v := ?_) rfl rfl (by kernel_rfl) (by kernel_rfl) (by kernel_rfl) (fun _ _ _ h => h) (by rfl) HB.out.drew ?_ ?_
      rotate_left
      · intro W hW
        go_simp
        try with_reducible rfl
      simp only [Act.put, List.setIfInBounds_toArray, List.set_cons_zero, List.set_cons_succ]
      refine heldS_take (i := 8) (v := ?_) rfl rfl (by kernel_rfl) (by kernel_rfl) (by kernel_rfl) (fun _ _ _ h => h) (by rfl) HB.out.drew ?_ ?_
      rotate_left
      · intro W hW
        go_simp
        try with_reducible rfl
      simp only [Act.put, List.setIfInBounds_toArray, List.set_cons_zero, List.set_cons_succ]
      refine heldS_take (i := 9) (v := ?_) rfl rfl (by kernel_rfl) (by kernel_rfl) (by kernel_rfl) (fun _ _ _ h => h) (by rfl) HB.out.drew ?_ ?_
      rotate_left
      · intro W hW
        go_simp
        try with_reducible rfl
      simp only [Act.put, List.setIfInBounds_toArray, List.set_cons_zero, List.set_cons_succ]
      refine heldS_call (i := 10) (by kernel_rfl) rfl (fun K' hK => ?_)
      go_simp
      refine (secretR_any s l k _).mono ?_
      rintro e w1 ⟨rfl, hb⟩
      have hS : Below w0.heap.size w0 w1 := HB.out.drew.trans (hb.mono hsz)
      refine hK.out _ _ hS ?_
      clear hK K'
      have HB1 := Lib.hid hS
      have HO1 := Lib.hid (owns_below (HO.out.drew) hb)
      clear hb hS
      refine heldS_call (i := 11) (by kernel_rfl) rfl (fun K' hK => ?_)
      go_simp
      refine (runR_any l k 0 (dig m k) _ _ (by omega)).mono ?_
      rintro e w2 ⟨rfl, hb⟩
      have hS : Below w0.heap.size w0 w2 := HB1.out.trans (hb.mono HB1.out.size)
      refine hK.out _ _ hS ?_
      clear hK K'
      have HB2 := Lib.hid hS
      have HO2 := Lib.hid (owns_below HO1.out hb)
      have hsz2 := HB2.out.size
      clear hb hS
      refine heldS_call (i := 12) (by kernel_rfl) rfl (fun K' hK => ?_)
      go_simp
      refine hK.out _ _ (HB2.out.alloc hsz2 _) ?_
      clear hK K'
      refine heldS_call (i := 13) (by kernel_rfl) rfl (fun K' hK => ?_)
      refine step_words rfl _ _ rfl w0.heap.size _ k ((List.range k).map (sigF s l m)) (sigF s l m k) w2.heap.size (HO2.out.alloc _) rfl (Ws.one w2 _) rfl (by omega) (by simp; omega) ?_
      intro v3 w3 ho3 hb3
      have hS : Below w0.heap.size w0 w3 := (HB2.out.alloc hsz2 _).trans hb3
      refine hK.out _ _ hS ?_
      clear hK K'
      rw [vals_take] at ho3
      have HO3 := Lib.hid ho3
      have HB3 := Lib.hid hS
      clear ho3 hb3 hS
      refine heldS_call (i := 14) (by kernel_rfl) rfl (fun K' hK => ?_)
      go_simp
      refine hK.out _ _ HB3.out ?_
      clear hK K'
      refine wpAnyH_done (by kernel_rfl) ?_ _
      go_wp2
      go_roundw
      case rel => exact ⟨k + 1, by go_num, by omega, HO3.out, HB3.out⟩
      case measure => (simp [intOf] <;> omega)
    · have hk' : k = 18 := by omega
      subst hk'
      go_wp2
      go_ret
      exact ⟨_, rfl, owns_base HO.out hsz0, HB0.out.trans (HB.out.mono hsz0)⟩

set_option maxHeartbeats 1000000 in
theorem recR_any (l : Int) (m : BitVec 64) (B : Option Addr) (c : Nat) (ws : List (BitVec 64)) (w : World) (hw : Ws w B 18 ws) :
    Calls Try.prog 36 #[.int .i64 l, .int .u64 (val m), .slice B 18 c] w fun e w' => e = .returned (.tuple #[.int .u64 (val (recF l m ws)), .int .i64 0]) ∧ Below w.heap.size w w' := by
  go_enter Try.func36, Try.ntmps36
  go_wp2_with fail
  refine (splitR_any m _).mono ?_
  rintro e w0 ⟨A0, c0, rfl, hN0, hb0⟩
  have hsz0 := hb0.size
  have HN0 := Lib.hid hN0
  have HW0 := Lib.hid (hw.below hb0)
  have HB0 := Lib.hid hb0
  clear hN0 hb0 hw
  go_wp2
  go_loopw [9, 10] (fun v i wr => ∃ k : Nat, i = .int .i64 k ∧ k ≤ 18 ∧ wr.ownsRow w0.heap.size 22 1 v k (wv ((List.range k).map (recV l m ws))) ∧ Below w0.heap.size w0 wr) (fun _ i _ => 18 - (intOf i).toNat)
  case atStart => exact ⟨0, rfl, Nat.zero_le _, World.ownsRow_nil w0 _ _ _, Below.refl _ _⟩
  case round =>
    obtain ⟨k, rfl, hk, hO, hbk⟩ := hrel
    have hsz := hbk.size
    have HO := Lib.hid hO
    have HB := Lib.hid hbk
    clear hO hbk
    by_cases hk18 : k < 18
    · obtain ⟨a0, rfl, _⟩ := HN0.out.at_ k hk18
      obtain ⟨b0, rfl, _⟩ := HW0.out.at_ k hk18
      go_wp2
      refine wp_region_held (S := fun W => Below w0.heap.size w0 W) (by kernel_rfl) ?_
      refine heldS_take (i := 0) (v := ?_) rfl rfl (by kernel_rfl) (by kernel_rfl) (by kernel_rfl) (fun _ _ _ h => h) (by rfl) HB.out.drew ?_ ?_
      rotate_left
      · intro W hW
        go_simp
        try with_reducible rfl
      simp only [Act.put, List.setIfInBounds_toArray, List.set_cons_zero, List.set_cons_succ]
      refine heldS_take (i := 1) (v := ?_) rfl rfl (by kernel_rfl) (by kernel_rfl) (by kernel_rfl) (fun _ _ _ h => h) (by rfl) HB.out.drew ?_ ?_
      rotate_left
      · intro W hW
        go_simp
        try with_reducible rfl
      simp only [Act.put, List.setIfInBounds_toArray, List.set_cons_zero, List.set_cons_succ]
      refine heldS_take (i := 2) (v := ?_) rfl rfl (by kernel_rfl) (by kernel_rfl) (by kernel_rfl) (fun _ _ _ h => h) (by rfl) HB.out.drew ?_ ?_
      rotate_left
      · intro W hW
        go_simp
        try with_reducible rfl
      simp only [Act.put, List.setIfInBounds_toArray, List.set_cons_zero, List.set_cons_succ]
      refine heldS_take (i := 3) (v := ?_) rfl rfl (by kernel_rfl) (by kernel_rfl) (by kernel_rfl) (fun _ _ _ h => h) (by rfl) HB.out.drew ?_ ?_
      rotate_left
      · intro W hW
        go_simp
        try with_reducible rfl
      simp only [Act.put, List.setIfInBounds_toArray, List.set_cons_zero, List.set_cons_succ]
      refine heldS_take (i := 4) (v := ?_) rfl rfl (by kernel_rfl) (by kernel_rfl) (by kernel_rfl) (fun _ _ _ h => h) (by rfl) HB.out.drew ?_ ?_
      rotate_left
      · intro W hW
        go_simp
        try with_reducible rfl
      simp only [Act.put, List.setIfInBounds_toArray, List.set_cons_zero, List.set_cons_succ]
      refine heldS_take (i := 5) (v := ?_) rfl rfl (by kernel_rfl) (by kernel_rfl) (by kernel_rfl) (fun _ _ _ h => h) (by rfl) HB.out.drew ?_ ?_
      rotate_left
      · intro W hW
        go_simp
        try with_reducible rfl
      simp only [Act.put, List.setIfInBounds_toArray, List.set_cons_zero, List.set_cons_succ]
      refine heldS_take (i := 6) (v := ?_) rfl rfl (by kernel_rfl) (by kernel_rfl) (by kernel_rfl) (fun _ _ _ h => h) (by rfl) HB.out.drew ?_ ?_
      rotate_left
      · intro W hW
        obtain ⟨a, e, hc⟩ := HN0.out.of_below hW k hk18
        cases e
        rw [digits_at m k hk18] at hc
        go_simp
        try with_reducible rfl
      simp only [Act.put, List.setIfInBounds_toArray, List.set_cons_zero, List.set_cons_succ]
      refine heldS_take (i := 7) (v := ?_) rfl rfl (by kernel_rfl) (by kernel_rfl) (by kernel_rfl) (fun _ _ _ h => h) (by rfl) HB.out.drew ?_ ?_
      rotate_left
      · intro W hW
        go_simp
        try with_reducible rfl
      simp only [Act.put, List.setIfInBounds_toArray, List.set_cons_zero, List.set_cons_succ]
      refine heldS_take (i := 8) (v := ?_) rfl rfl (by kernel_rfl) (by kernel_rfl) (by kernel_rfl) (fun _ _ _ h => h) (by rfl) HB.out.drew ?_ ?_
      rotate_left
      · intro W hW
        go_simp
        try with_reducible rfl
      simp only [Act.put, List.setIfInBounds_toArray, List.set_cons_zero, List.set_cons_succ]
      refine heldS_take (i := 9) (v := ?_) rfl rfl (by kernel_rfl) (by kernel_rfl) (by kernel_rfl) (fun _ _ _ h => h) (by rfl) HB.out.drew ?_ ?_
      rotate_left
      · intro W hW
        go_simp
        try with_reducible rfl
      simp only [Act.put, List.setIfInBounds_toArray, List.set_cons_zero, List.set_cons_succ]
      refine heldS_take (i := 10) (v := ?_) rfl rfl (by kernel_rfl) (by kernel_rfl) (by kernel_rfl) (fun _ _ _ h => h) (by rfl) HB.out.drew ?_ ?_
      rotate_left
      · intro W hW
        obtain ⟨a, e, hc⟩ := (HW0.out.below hW).at_ k hk18
        cases e
        go_simp
        try with_reducible rfl
      simp only [Act.put, List.setIfInBounds_toArray, List.set_cons_zero, List.set_cons_succ]
      refine heldS_call (i := 11) (by kernel_rfl) rfl (fun K' hK => ?_)
      go_simp
      refine (runR_any l k (dig m k) 15 _ _ (by have := dig_rng m k; omega)).mono ?_
      rintro e w2 ⟨rfl, hb⟩
      have hS : Below w0.heap.size w0 w2 := HB.out.drew.trans (hb.mono hsz)
      refine hK.out _ _ hS ?_
      clear hK K'
      have HB2 := Lib.hid hS
      have HO2 := Lib.hid (owns_below HO.out.drew hb)
      have hsz2 := HB2.out.size
      clear hb hS
      refine heldS_call (i := 12) (by kernel_rfl) rfl (fun K' hK => ?_)
      go_simp
      refine hK.out _ _ (HB2.out.alloc hsz2 _) ?_
      clear hK K'
      refine heldS_call (i := 13) (by kernel_rfl) rfl (fun K' hK => ?_)
      refine step_words rfl _ _ rfl w0.heap.size _ k ((List.range k).map (recV l m ws)) (recV l m ws k) w2.heap.size (HO2.out.alloc _) rfl (Ws.one w2 _) rfl (by omega) (by simp; omega) ?_
      intro v3 w3 ho3 hb3
      have hS : Below w0.heap.size w0 w3 := (HB2.out.alloc hsz2 _).trans hb3
      refine hK.out _ _ hS ?_
      clear hK K'
      rw [vals_take] at ho3
      have HO3 := Lib.hid ho3
      have HB3 := Lib.hid hS
      clear ho3 hb3 hS
      refine heldS_call (i := 14) (by kernel_rfl) rfl (fun K' hK => ?_)
      go_simp
      refine hK.out _ _ HB3.out ?_
      clear hK K'
      refine wpAnyH_done (by kernel_rfl) ?_ _
      go_wp2
      go_roundw
      case rel => exact ⟨k + 1, by go_num, by omega, HO3.out, HB3.out⟩
      case measure => (simp [intOf] <;> omega)
    · have hk' : k = 18 := by omega
      subst hk'
      obtain ⟨A, c3, rfl, hW⟩ := own_words HO.out
      go_wp2_with fail
      refine (ends_any l (vals (recV l m ws)) A 18 c3 _ hW (by omega) (by omega)).mono ?_
      rintro e w3 ⟨rfl, hb3⟩
      go_wp2
      go_ret2
      exact ⟨rfl, (HB0.out.trans (HB.out.mono hsz0)).trans (hb3.mono (Nat.le_trans hsz0 hsz))⟩
set_option maxHeartbeats 1000000 in
theorem recR_bad (l : Int) (m : BitVec 64) (B : Option Addr) (n c : Nat) (w : World) (hn : n ≠ 18) :
    Calls Try.prog 36 #[.int .i64 l, .int .u64 (val m), .slice B n c] w fun e w' => e = .returned (.tuple #[.int .u64 0, .int .i64 4]) ∧ Below w.heap.size w w' := by
  go_enter Try.func36, Try.ntmps36
  go_wp2
  go_ret2
  exact ⟨rfl, Below.refl _ _⟩
set_option maxHeartbeats 1000000 in
theorem rec_bad (l : Int) (m : BitVec 64) (B : Option Addr) (n c : Nat) (w : World) (hn : n ≠ 18) :
    Calls Try.prog 34 #[.int .i64 l, .int .u64 (val m), .slice B n c] w fun e w' => e = .returned (.tuple #[.int .u64 0, .int .i64 4]) ∧ Below w.heap.size w w' := by
  go_enter Try.func34, Try.ntmps34
  go_wp2
  go_ret2
  exact ⟨rfl, Below.refl _ _⟩
end Go.Proofs.Ythgahjihgoiklaa
