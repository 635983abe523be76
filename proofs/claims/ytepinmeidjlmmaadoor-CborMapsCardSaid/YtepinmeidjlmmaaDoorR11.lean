/- Joined: H8, H9, H10, H11, F7, F8. -/
import Derived.Test.YtepinmeidjlmmaaDoorR10
import Derived.Test.YtepinmeidjlmmaaDoorR4
import Derived.Test.YtepinmeidjlmmaaDoorR9
import Derived.Deep.Slices
/- Decode over any bytes. -/
namespace Go.Proofs.YtepinmeidjlmmaaDoor
open Go.RowKit
set_option maxRecDepth 100000

/-- what is read from here on: error, items, the place behind them -/
def decGo (zs : List Int) (N : Nat) : Nat → Nat → List Lv → Nat → List It → Int × List It × Nat
  | 0, _, _, _, _ => (8, [], 0)
  | f + 1, c, s, a, xs =>
    if compB c s = true then (0, xs, a)
    else if (itemE zs N c s a).1 ≠ 0 then ((itemE zs N c s a).1, [], 0)
    else decGo zs N f (c + 1) (enterS s (itemE zs N c s a).2.1.k (itemE zs N c s a).2.1.n (itemE zs N c s a).2.1.d) (itemE zs N c s a).2.2 (xs ++ [(itemE zs N c s a).2.1])
def decE (zs : List Int) (N : Nat) : Int × List It × Nat := decGo zs N 600 0 [] 0 []

/-- RdS behind 'enter' -/
theorem RdS.nf {w w' : World} {p base c c' : Nat} {s s' : List Lv} {A : Option Addr} {N cap a : Nat} {zs : List Int} (h : RdS w p base c s A N cap a zs) (hn : NF p w w') (hv : ∃ v, nestAt w' base p c' s' v) : RdS w' p base c' s' A N cap a zs :=
  ⟨hv, ⟨(hn.cell 2 (by omega)).trans h.rd.inp, (hn.cell 3 (by omega)).trans h.rd.pos, (hn.frz 3).trans h.rd.fr, h.rd.hcap, h.rd.hcm, h.rd.hN, h.rd.hat⟩, h.by_.below hn.below, h.tabs.below hn.below h.p4, h.p4⟩

theorem own_rf {w w' : World} {p base e size n : Nat} {v : Value} {xs : List Value} (h : w.ownsRow base e size v n xs) (hr : RF p w w') (hp : p < base) : w'.ownsRow base e size v n xs := by
  refine ⟨h.1, ?_⟩
  rcases h.2 with h0 | ⟨g, cap, cur, hv, hg, hh, hc⟩
  · exact .inl h0
  · exact .inr ⟨g, cap, cur, hv, hg, by rw [hr.block g (lt_of_heap hh) (by omega), hh], hc⟩
theorem own_nf {w w' : World} {p base e size n : Nat} {v : Value} {xs : List Value} (h : w.ownsRow base e size v n xs) (hr : NF p w w') (hp : p < base) (he : e ≠ 100) : w'.ownsRow base e size v n xs := by
  refine ⟨h.1, ?_⟩
  rcases h.2 with h0 | ⟨g, cap, cur, hv, hg, hh, hc⟩
  · exact .inl h0
  · exact .inr ⟨g, cap, cur, hv, hg, by rw [hr.block g (lt_of_heap hh) (by omega) (by rw [hh]; intro cur' fr e'; cases e'; exact he rfl), hh], hc⟩
theorem own_base {w : World} {base base' e size n : Nat} {v : Value} {xs : List Value} (h : w.ownsRow base e size v n xs) (hb : base' ≤ base) : w.ownsRow base' e size v n xs := by
  refine ⟨h.1, ?_⟩
  rcases h.2 with h0 | ⟨g, cap, cur, hv, hg, hh⟩
  · exact .inl h0
  · exact .inr ⟨g, cap, cur, hv, by omega, hh⟩
/-- append(a, s...) of items, a the call's own: rows of other types stay -/
theorem app_items2 {ops : Array Oper} {rest : List Oper} {o : Oper} {a : Act} {Q : Exit → Act → World → Prop} {w : World} (hgd : o.guard = none) (s x : Operand)
    (ho : o.op = .call { callee := .builtin .append, args := #[s, x], argTypes := #[22, 22] })
    (base : Nat) (v : Value) (n : Nat) (xs : List It) (l : List It) (B b off cap : Nat) (hown : w.ownsRow base 58 3 v n (itCells xs)) (hs : a.eval s = v)
    (hI : ItemsAt w B (.slice (some ⟨b, off, none⟩) l.length cap) l) (hx : a.eval x = .slice (some ⟨b, off, none⟩) l.length cap) (hne : l ≠ []) (hn : n ≤ 1000000) (hl : l.length ≤ 1000000) (hb : base ≤ w.heap.size)
    (h : ∀ v' w', w'.ownsRow base 58 3 v' (n + l.length) (itCells (xs ++ l)) → Below base w w' → KeptT 58 w w' → wpList Tryd.prog ops Q rest (a.put o.dst v') w') :
    wpList Tryd.prog ops Q (o :: rest) a w := by
  obtain ⟨i0, hi, hz0, hz1, hz2⟩ := info_parts info58
  refine wpList_append_own _ hgd s x 22 ho base 58 i0 _ 3 32 Tryd.underlying22 hi hz0 hz1 hz2 rfl (by decide) v n _ hs hown ⟨b, off, none⟩ l.length cap (itCells l) hx (itCells_len l) (itemsAt_src hI hne).2 (itCells_one l) (by unfold maxLen; omega) (by omega) hb ?_
  intro v' w' h1 h2 _
  rw [← itCells_app] at h1
  exact h v' w' h1 (below_of_grown hown hb h2) (KeptT.grown hown h2)
theorem RdS.kept {w w' : World} {p base c : Nat} {s : List Lv} {A : Option Addr} {N cap a : Nat} {zs : List Int} (h : RdS w p base c s A N cap a zs) (hk : KeptT 58 w w') (hb : Below (p + 1) w w') : RdS w' p base c s A N cap a zs := by
  obtain ⟨v, hv⟩ := h.nest
  have hlt : p < p + 1 := Nat.lt_succ_self p
  refine ⟨⟨v, (hb.cell (p := ⟨p, 0, none⟩) hlt).trans hv.cnt, (hb.cell (p := ⟨p, 1, none⟩) hlt).trans hv.lv, (hb.frozen (p := ⟨p, 0, none⟩) hlt).trans hv.fr0, (hb.frozen (p := ⟨p, 1, none⟩) hlt).trans hv.fr1, ?_, hv.lt, Nat.le_trans hv.hb hk.size, hv.len, hv.c512, hv.ok⟩,
    ⟨(hb.cell (p := ⟨p, 2, none⟩) hlt).trans h.rd.inp, (hb.cell (p := ⟨p, 3, none⟩) hlt).trans h.rd.pos, (hb.frozen (p := ⟨p, 3, none⟩) hlt).trans h.rd.fr, h.rd.hcap, h.rd.hcm, h.rd.hN, h.rd.hat⟩, h.by_.below (hb.mono (Nat.le_succ p)), h.tabs.below (hb.mono (Nat.le_succ p)) h.p4, h.p4⟩
  refine ⟨hv.own.1, ?_⟩
  rcases hv.own.2 with h0 | ⟨g, cap, cur, hv', hg, hh, hc⟩
  · exact .inl h0
  · exact .inr ⟨g, cap, cur, hv', hg, hk.other hh (by decide), hc⟩
theorem own_form {w : World} {base e size n : Nat} {v : Value} {xs : List Value} (h : w.ownsRow base e size v n xs) : ∃ A cap, v = .slice A n cap := by
  rcases h.2 with ⟨h0, h1⟩ | ⟨g, cap, cur, hv, _⟩
  · exact ⟨none, 0, by rw [h0, h1]⟩
  · exact ⟨_, _, hv⟩
theorem Box.nf {W W' : World} {p B : Nat} {k n : Int} {d : ByteArray} (h : Box W B k n d) (hr : NF p W W') (hne : B ≠ p) : Box W' B k n d := by
  have := hr.block B h.lt hne (by unfold Box at h; rw [h]; intro cur fr e; cases e)
  exact this.trans h
theorem decGo_done {zs : List Int} {N f c : Nat} {s : List Lv} {a : Nat} {xs : List It} (h : compB c s = true) : decGo zs N (f + 1) c s a xs = (0, xs, a) := by simp [decGo, h]
theorem decGo_bad {zs : List Int} {N f c : Nat} {s : List Lv} {a : Nat} {xs : List It} {er : Int} {x : It} {a3 : Nat} (h : compB c s = false) (hi : itemE zs N c s a = (er, x, a3)) (he : er ≠ 0) : decGo zs N (f + 1) c s a xs = (er, [], 0) := by simp [decGo, h, hi, he]
theorem decGo_next {zs : List Int} {N f c : Nat} {s : List Lv} {a : Nat} {xs : List It} {x : It} {a3 : Nat} (h : compB c s = false) (hi : itemE zs N c s a = (0, x, a3)) : decGo zs N (f + 1) c s a xs = decGo zs N f (c + 1) (enterS s x.k x.n x.d) a3 (xs ++ [x]) := by simp [decGo, h, hi]

def DecP (zs : List Int) (N : Nat) (w : World) (e : Ending) (w' : World) : Prop :=
  ∃ v, e = .returned (.tuple #[v, .int .i64 (decE zs N).2.2, .int .i64 (decE zs N).1]) ∧ w'.ownsRow w.heap.size 58 3 v (decE zs N).2.1.length (itCells (decE zs N).2.1) ∧ Below w.heap.size w w' ∧ ((decE zs N).1 ≠ 0 → v = .slice none 0 0) ∧ (∀ x ∈ (decE zs N).2.1, 0 ≤ x.n ∧ x.d.size ≤ 1024) ∧ (decE zs N).2.1.length ≤ 600

set_option maxHeartbeats 2000000 in
theorem decode_any (A : Option Addr) (N cap : Nat) (zs : List Int) (w : World) (hb : Bys w A N zs) (hc : N ≤ cap) (hcm : cap ≤ 9223372036854775807) (hN : N ≤ 1000000000000) (ht : Tabs w) :
    Calls Tryd.prog 22 #[.slice A N cap] w (DecP zs N w) := by
  have hB0 : Below w.heap.size w (w.alloc (.cells #[.int .i64 0, .slice none 0 0, .slice A N cap, .int .i64 0] 77)) := (Below.refl _ w).alloc (Nat.le_refl _) _
  have hN0 : nestAt (w.alloc (.cells #[.int .i64 0, .slice none 0 0, .slice A N cap, .int .i64 0] 77)) (w.heap.size + 1) w.heap.size 0 [] (.slice none 0 0) :=
    ⟨by simp, by simp, by simp, by simp, World.ownsRow_nil _ _ _ _, by omega, by simp, by simp, by omega, by simp⟩
  have hR : Rd (w.alloc (.cells #[.int .i64 0, .slice none 0 0, .slice A N cap, .int .i64 0] 77)) w.heap.size A N cap 0 :=
    ⟨by simp, by simp, by simp, hc, hcm, hN, by omega⟩
  have HS := Lib.hid (⟨⟨_, hN0⟩, hR, (BysB.of hb).below hB0, ht.later hB0, ht.tz.hs⟩ : RdS _ w.heap.size (w.heap.size + 1) 0 [] A N cap 0 zs)
  have HB0 := Lib.hid hB0
  have HBY := Lib.hid hb
  clear hR hN0 hB0 hb ht
  go_enter Tryd.func22, Tryd.ntmps22
  go_wp2_with fail
  go_loopw [2] (fun v wr => ∃ c s a xs, xs.length = c ∧ c ≤ 512 ∧ (∃ A2 cap2, v = .slice A2 c cap2) ∧ Hid (wr.ownsRow (w.heap.size + 1) 58 3 v c (itCells xs)) ∧ Hid (RdS wr w.heap.size (w.heap.size + 1) c s A N cap a zs) ∧ Below w.heap.size w wr ∧ Hid (∀ t r, s = t :: r → 1 ≤ t.mi) ∧ Hid (decGo zs N (600 - c) c s a xs = decE zs N) ∧ Hid (∀ x ∈ xs, 0 ≤ x.n ∧ x.d.size ≤ 1024)) (fun v _ => match v with | .slice _ m _ => 600 - m | _ => 0)
  case atStart => exact ⟨0, [], 0, [], rfl, by omega, ⟨none, 0, rfl⟩, Lib.hid (World.ownsRow_nil _ _ _ _), HS, HB0.out, Lib.hid (by simp), Lib.hid rfl, Lib.hid (by simp)⟩
  case round =>
    obtain ⟨c, s, a, xs, hxl, hc512, ⟨A2, cap2, rfl⟩, HO, HR, hbw, HT, HG, HX⟩ := hrel
    have HBW := Lib.hid hbw
    have HXL := Lib.hid hxl
    obtain ⟨v0, hv0⟩ := HR.out.nest
    have HV := Lib.hid hv0
    have hpos := HR.out.rd.pos
    have hpw := HR.out.plt
    have h600 : 600 - c = (600 - (c + 1)) + 1 := by omega
    have H6 := Lib.hid h600
    clear hbw hv0 h600 hxl
    by_cases hcomp : compB c s = true
    · have HCB := Lib.hid hcomp
      clear hcomp
      have hfin : decE zs N = (0, xs, a) := by rw [← HG.out, H6.out]; exact decGo_done HCB.out
      have HF := Lib.hid hfin
      clear hfin
      go_wp2_with (go_at_call 41; refine (complete_any _ HV.out).mono ?_; rintro e w' ⟨rfl, rfl⟩; rw [HCB.out])
      go_quiet (fail)
      go_wp2
      go_ret3
      refine ⟨.slice A2 c cap2, by rw [HF.out]; rfl, by rw [HF.out, HXL.out]; exact own_base HO.out (by omega), HBW.out.trans ⟨rfl, rfl, rfl, Nat.le_refl _, fun _ _ => rfl⟩, fun h => by rw [HF.out] at h; exact absurd rfl h, by rw [HF.out]; exact HX.out, by rw [HF.out, HXL.out]; omega⟩
    · have hcomp' : compB c s = false := by simpa using hcomp
      have HCB := Lib.hid hcomp'
      clear hcomp hcomp'
      obtain ⟨er, x, a3, hie⟩ : ∃ er x a3, itemE zs N c s a = (er, x, a3) := ⟨_, _, _, rfl⟩
      have hI := itm_any w.heap.size (w.heap.size + 1) c s A N cap a zs wr HR.out
      rw [hie] at hI
      have HI := Lib.hid hI
      clear hI hpos
      by_cases he : er = 0
      · subst he
        obtain ⟨hck, hn0, _, _⟩ := item_ok HBY.out.rng HBY.out.len HCB.out hie
        obtain ⟨q512, qk1, qk8, q7, qd, q5, q6, qs, qkey, _⟩ := check_zero hck
        have hnext : decGo zs N (600 - (c + 1)) (c + 1) (enterS s x.k x.n x.d) a3 (xs ++ [x]) = decE zs N := by rw [← HG.out, H6.out]; exact (decGo_next HCB.out hie).symm
        have HNX := Lib.hid hnext
        have HKEY := Lib.hid qkey
        have Q5 := Lib.hid q5
        have Q6 := Lib.hid q6
        clear hnext hie hck qkey q5 q6 q7
        go_wp2_with (first
          | (go_at_call 41; refine (complete_any _ HV.out).mono ?_; rintro e w' ⟨rfl, rfl⟩; rw [HCB.out])
          | (go_at_call 44; refine HI.out.mono ?_; rintro e w1 ⟨rfl, hr1, hs1⟩; have HR1 := Lib.hid hr1; have HS1 := Lib.hid (hs1 rfl); clear hr1 hs1)
          | fail)
        have hb2 : Below w1.heap.size w1 (w1.alloc (.cells #[.int .i64 x.k, .int .u64 x.n, .string x.d] 58)) := (Below.refl _ w1).alloc (Nat.le_refl _) _
        have hs2 := HS1.out.keep hb2
        obtain ⟨v2, hv2⟩ := hs2.nest
        have hbx2 := Box.new w1 x.k x.n x.d
        have ho2 := (own_rf HO.out HR1.out (Nat.lt_succ_self _)).alloc (.cells #[.int .i64 x.k, .int .u64 x.n, .string x.d] 58)
        have hsz1 := HR1.out.size
        have hsz0 := HBW.out.size
        refine (enter_any x.k x.n x.d _ hv2 hn0 Q6.out Q5.out (by omega) (by omega) HT.out HKEY.out).mono ?_
        rintro e w3 ⟨rfl, hnf, hv3⟩
        have hs3 := hs2.nf hnf hv3
        have hbx3 := hbx2.nf hnf (by omega)
        have ho3 := own_nf ho2 hnf (Nat.lt_succ_self _) (by decide)
        have htop := fun v3 (h : nestAt w3 (w.heap.size + 1) w.heap.size (c + 1) (enterS s x.k x.n x.d) v3) => top_pos (s := pushed (lessS (keyS s x.k x.n x.d)) x.k x.n) h
        obtain ⟨v3, hv3⟩ := hv3
        have htp := htop v3 hv3
        have hb03 : Below w.heap.size w w3 := ((HBW.out.trans (HR1.out.below (Nat.le_of_lt hpw))).trans (hb2.mono (by omega))).trans hnf.below
        have HS3 := Lib.hid hs3
        have HO3 := Lib.hid ho3
        have HTP := Lib.hid htp
        have HB3 := Lib.hid hb03
        have hsz3 := hb03.size
        have hlt3 : w.heap.size + 1 ≤ w3.heap.size := by have := HS3.out.plt; omega
        obtain ⟨z0, z1, z2, _, _, _⟩ := hbx3.cells
        clear hb2 hs2 hv2 hbx2 ho2 hnf hs3 hbx3 ho3 htop hv3 htp hb03
        have hit : ItemsAt (w3.alloc (.cells #[.int .i64 x.k, .int .u64 x.n, .string x.d] 58)) (w3.heap.size + 1) (.slice (some ⟨w3.heap.size, 0, none⟩) 1 1) [x] := itemsAt_one (by omega) (heap_new w3 _) hn0 (by unfold maxLen; omega)
        have HIT := Lib.hid hit
        clear hit
        have hxlen := HXL.out
        go_wp2_with (first
          | (at_builtin; refine app_items2 rfl _ _ rfl (w.heap.size + 1) _ c xs [x] (w3.heap.size + 1) w3.heap.size 0 1 (HO3.out.alloc _) rfl HIT.out rfl (by simp) (by omega) (by simp) (by simp; omega) ?_; intro v4 w4 ho4 hb4 hk4)
          | fail)
        have hb34 : Below w3.heap.size w3 (w3.alloc (.cells #[.int .i64 x.k, .int .u64 x.n, .string x.d] 58)) := (Below.refl _ w3).alloc (Nat.le_refl _) _
        have hs4 := (HS3.out.keep hb34).kept hk4 hb4
        obtain ⟨A4, cap4, hv4⟩ := own_form ho4
        subst hv4
        have hxs : ∀ y ∈ xs ++ [x], 0 ≤ y.n ∧ y.d.size ≤ 1024 := by
          intro y hy
          rcases List.mem_append.1 hy with h | h
          · exact HX.out y h
          · simp at h; subst h; exact ⟨hn0, qd⟩
        go_roundw
        case rel => exact ⟨c + 1, enterS s x.k x.n x.d, a3, xs ++ [x], by simp [hxlen], by omega, ⟨A4, cap4, rfl⟩, Lib.hid ho4, Lib.hid hs4, (HB3.out.trans (hb34.mono (by omega))).trans (hb4.mono (by omega)), HTP, HNX, Lib.hid hxs⟩
        case measure => show 600 - (c + 1) < 600 - c; omega
      · have hfin : decE zs N = (er, [], 0) := by rw [← HG.out, H6.out]; exact decGo_bad HCB.out hie he
        have hne : (er != 0) = true := by simpa using he
        have HF := Lib.hid hfin
        have HIE := Lib.hid hie
        clear hfin hie
        go_wp2_with (first
          | (go_at_call 41; refine (complete_any _ HV.out).mono ?_; rintro e w' ⟨rfl, rfl⟩; rw [HCB.out])
          | (go_at_call 44; refine HI.out.mono ?_; rintro e w1 ⟨rfl, hr1, _⟩; have HR1 := Lib.hid hr1; clear hr1))
        go_ret3
        exact ⟨.slice none 0 0, by rw [HF.out]; rfl, by rw [HF.out]; exact World.ownsRow_nil _ _ _ _, (HBW.out.trans (HR1.out.below (Nat.le_of_lt hpw))).alloc (by have := HBW.out.size; have := HR1.out.size; omega) _, fun _ => rfl, by rw [HF.out]; exact fun x h => absurd h (by simp), by rw [HF.out]; exact Nat.zero_le _⟩
end Go.Proofs.YtepinmeidjlmmaaDoor

/- What is read is an encoding: plain. -/
namespace Go.Proofs.YtepinmeidjlmmaaDoor
open Go.RowKit
set_option maxRecDepth 100000

theorem beTo_div {ys : List Int} {k : Nat} (hr : ∀ z ∈ ys, 0 ≤ z ∧ z ≤ 255) (h : k < ys.length) : beTo ys (k + 1) / 256 = beTo ys k ∧ beTo ys (k + 1) % 256 = ys.getD k 0 := by
  have hx : 0 ≤ ys.getD k 0 ∧ ys.getD k 0 ≤ 255 := by
    simp only [List.getD, List.getElem?_eq_getElem h, Option.getD_some]
    exact hr _ (List.getElem_mem _)
  rw [beTo_succ h]
  omega
theorem beTo_far {ys : List Int} (hr : ∀ z ∈ ys, 0 ≤ z ∧ z ≤ 255) (i : Nat) : ∀ t, i + t ≤ ys.length → beTo ys (i + t) / 256 ^ t = beTo ys i
  | 0, _ => by simp
  | t + 1, h => by
    have ih := beTo_far hr i t (by omega)
    have hd := (beTo_div (k := i + t) hr (by omega)).1
    have e : (256 : Int) ^ (t + 1) = 256 * 256 ^ t := by rw [Int.pow_succ, Int.mul_comm]
    rw [show i + (t + 1) = (i + t) + 1 by omega, e, ← Int.ediv_ediv_of_nonneg (by decide), hd, ih]
theorem beBytes_back {ys : List Int} {s : Nat} (hr : ∀ z ∈ ys, 0 ≤ z ∧ z ≤ 255) (hl : ys.length = s) : beBytes (beTo ys s) s s = ys := by
  apply List.ext_getElem?
  intro i
  rcases Nat.lt_or_ge i s with hi | hi
  · have e1 : (beBytes (beTo ys s) s s)[i]? = some (beByte (beTo ys s) s i) := by simp [beBytes, hi]
    rw [e1]
    unfold beByte
    have hf := beTo_far hr (i + 1) (s - 1 - i) (by omega)
    have hd := (beTo_div (k := i) hr (by omega)).2
    rw [show i + 1 + (s - 1 - i) = s by omega] at hf
    rw [show (2 : Int) ^ (8 * (s - 1 - i)) = 256 ^ (s - 1 - i) by rw [Int.pow_mul]; rfl, hf, hd]
    simp only [List.getD]
    rw [List.getElem?_eq_getElem (by omega)]
    rfl
  · rw [List.getElem?_eq_none (by rw [beBytes_len]; exact hi), List.getElem?_eq_none (by omega)]

theorem stretch {zs : List Int} {a b : Nat} (h : a < b) (hb : b ≤ zs.length) : (zs.drop a).take (b - a) = zs.getD a 0 :: (zs.drop (a + 1)).take (b - a - 1) := by
  rw [List.drop_eq_getElem_cons (show a < zs.length by omega)]
  obtain ⟨m, hm⟩ : ∃ m, b - a = m + 1 := ⟨b - a - 1, by omega⟩
  rw [hm, List.take_succ_cons]
  simp [List.getD, List.getElem?_eq_getElem (show a < zs.length by omega)]
theorem stretch_app {zs : List Int} {a b c : Nat} (h : a ≤ b) (h2 : b ≤ c) : (zs.drop a).take (c - a) = (zs.drop a).take (b - a) ++ (zs.drop b).take (c - b) := by
  rw [show c - a = (b - a) + (c - b) by omega, List.take_add, List.drop_drop, show a + (b - a) = b by omega]

/-- the head's bytes are the encoding of the head -/
theorem head_enc {zs : List Int} {N a : Nat} (hr : ∀ z ∈ zs, 0 ≤ z ∧ z ≤ 255) (hl : zs.length = N) {k n : Int} {a2 : Nat} (h : headE zs N a = (k, n, 0, a2)) :
    (k ≤ 6 ∧ encHead (k - 1) n = (zs.drop a).take (a2 - a)) ∨ (k = 7 ∧ [244 + n] = (zs.drop a).take (a2 - a)) ∨ (k = 8 ∧ [246] = (zs.drop a).take (a2 - a)) := by
  have hok := head_ok hr hl h
  have hst := stretch (zs := zs) (a := a) (b := a2) hok.2.2.2.2.2.2.1 (by omega)
  unfold headE at h
  by_cases hN : N ≤ a
  · rw [if_pos hN] at h; simp at h
  rw [if_neg hN] at h
  have hby : 0 ≤ zs.getD a 0 ∧ zs.getD a 0 ≤ 255 := by
    simp only [List.getD, List.getElem?_eq_getElem (show a < zs.length by omega), Option.getD_some]
    exact hr _ (List.getElem_mem _)
  generalize zs.getD a 0 = x at *
  by_cases hx : x = 244 ∨ x = 245 ∨ x = 246
  · rw [if_pos hx] at h
    simp only [Prod.mk.injEq] at h
    obtain ⟨h1, h2, _, h4⟩ := h
    subst h4
    rw [show a + 1 - a - 1 = 0 by omega, List.take_zero] at hst
    rcases hx with rfl | rfl | rfl
    · right; left; simp at h1 h2; exact ⟨h1.symm, by rw [← h2, hst]; rfl⟩
    · right; left; simp at h1 h2; exact ⟨h1.symm, by rw [← h2, hst]; rfl⟩
    · right; right; simp at h1; exact ⟨h1.symm, by rw [hst]⟩
  rw [if_neg hx] at h
  by_cases hbad : 6 < 1 + x / 32 ∨ 27 < x % 32
  · rw [if_pos hbad] at h; simp at h
  rw [if_neg hbad] at h
  by_cases hlow : x % 32 < 24
  · rw [if_pos hlow] at h
    simp only [Prod.mk.injEq] at h
    obtain ⟨rfl, rfl, _, rfl⟩ := h
    left
    refine ⟨by omega, ?_⟩
    rw [hst, show a + 1 - a - 1 = 0 by omega, List.take_zero, encHead0 hlow]
    congr 1
    omega
  rw [if_neg hlow] at h
  obtain ⟨j, hj⟩ : ∃ j : Nat, x % 32 - 24 = j := ⟨(x % 32 - 24).toNat, by omega⟩
  rw [hj, Int.toNat_natCast] at h
  by_cases hsh : N < a + 1 + 2 ^ j
  · rw [if_pos hsh] at h; simp at h
  rw [if_neg hsh] at h
  by_cases hok2 : argSz (widN zs a (2 ^ j)) = ((2 ^ j : Nat) : Int)
  · rw [if_pos hok2] at h
    simp only [Prod.mk.injEq] at h
    obtain ⟨rfl, rfl, _, rfl⟩ := h
    left
    refine ⟨by omega, ?_⟩
    rw [hst, show a + 1 + 2 ^ j - a - 1 = 2 ^ j by omega]
    have hys : ((zs.drop (a + 1)).take (2 ^ j)).length = 2 ^ j := by simp; omega
    have hbk := beBytes_back (ys := (zs.drop (a + 1)).take (2 ^ j)) (s := 2 ^ j) (fun z hz => hr z (List.mem_of_mem_drop (List.mem_of_mem_take hz))) hys
    have hw : widN zs a (2 ^ j) = beTo ((zs.drop (a + 1)).take (2 ^ j)) (2 ^ j) := rfl
    rw [← hw] at hbk
    generalize (zs.drop (a + 1)).take (2 ^ j) = ys at *
    generalize widN zs a (2 ^ j) = n at *
    have hx2 : x = (1 + x / 32 - 1) * 32 + (24 + (j : Int)) := by omega
    generalize 1 + x / 32 - 1 = m at *
    have hj4 : j = 0 ∨ j = 1 ∨ j = 2 ∨ j = 3 := by omega
    unfold argSz at hok2
    rcases hj4 with rfl | rfl | rfl | rfl
    · by_cases c0 : n < 24
      · rw [if_pos c0] at hok2; simp at hok2
      rw [if_neg c0] at hok2
      by_cases c1 : n < 256
      · rw [encHead1 (by omega) c1, hx2]; rw [show (2 : Nat) ^ 0 = 1 from rfl] at hbk; rw [hbk]; rfl
      · rw [if_neg c1] at hok2; exfalso; split at hok2 <;> (try split at hok2) <;> simp at hok2
    · by_cases c0 : n < 24
      · rw [if_pos c0] at hok2; simp at hok2
      rw [if_neg c0] at hok2
      by_cases c1 : n < 256
      · rw [if_pos c1] at hok2; simp at hok2
      rw [if_neg c1] at hok2
      by_cases c2 : n < 65536
      · rw [encHead2 (by omega) c2, hx2]; rw [show (2 : Nat) ^ 1 = 2 from rfl] at hbk; rw [hbk]; rfl
      · rw [if_neg c2] at hok2; exfalso; split at hok2 <;> simp at hok2
    · by_cases c0 : n < 24
      · rw [if_pos c0] at hok2; simp at hok2
      rw [if_neg c0] at hok2
      by_cases c1 : n < 256
      · rw [if_pos c1] at hok2; simp at hok2
      rw [if_neg c1] at hok2
      by_cases c2 : n < 65536
      · rw [if_pos c2] at hok2; simp at hok2
      rw [if_neg c2] at hok2
      by_cases c3 : n < 4294967296
      · rw [encHead4 (by omega) c3, hx2]; rw [show (2 : Nat) ^ 2 = 4 from rfl] at hbk; rw [hbk]; rfl
      · rw [if_neg c3] at hok2; simp at hok2
    · by_cases c3 : 4294967296 ≤ n
      · rw [encHead8 c3, hx2]; rw [show (2 : Nat) ^ 3 = 8 from rfl] at hbk; rw [hbk]; rfl
      · exfalso
        by_cases c0 : n < 24
        · rw [if_pos c0] at hok2; simp at hok2
        rw [if_neg c0] at hok2
        by_cases c1 : n < 256
        · rw [if_pos c1] at hok2; simp at hok2
        rw [if_neg c1] at hok2
        by_cases c2 : n < 65536
        · rw [if_pos c2] at hok2; simp at hok2
        rw [if_neg c2, if_pos (by omega)] at hok2; simp at hok2
  · rw [if_neg hok2] at h; simp at h
end Go.Proofs.YtepinmeidjlmmaaDoor

/- Decode's items are valid, and their encoding is what was read: plain. -/
namespace Go.Proofs.YtepinmeidjlmmaaDoor
open Go.RowKit
set_option maxRecDepth 100000

theorem dataI_str (ys : List Int) (hr : ∀ z ∈ ys, 0 ≤ z ∧ z ≤ 255) : dataI (strOfNums ys) = ys := by
  unfold dataI strOfNums
  simp only [List.map_map]
  refine (List.map_congr_left (g := id) fun z hz => ?_).trans (List.map_id _)
  have := hr z hz
  simp only [Function.comp, id]
  rw [UInt8.toNat_ofNat']
  omega

theorem item_enc {zs : List Int} {N c : Nat} {s : List Lv} {a : Nat} (hr : ∀ z ∈ zs, 0 ≤ z ∧ z ≤ 255) (hl : zs.length = N) {x : It} {a3 : Nat} (h : itemE zs N c s a = (0, x, a3)) :
    encItem x.k x.n x.d = (zs.drop a).take (a3 - a) := by
  unfold itemE at h
  obtain ⟨k, n, er, a2, hh⟩ : ∃ k n er a2, headE zs N a = (k, n, er, a2) := ⟨_, _, _, _, rfl⟩
  rw [hh] at h
  unfold bodyE at h
  dsimp only at h
  by_cases he : er = 0
  · subst he
    rw [if_neg (by simp)] at h
    obtain ⟨k1, k8, n0, n64, h7, h8, hlt, hle⟩ := head_ok hr hl hh
    have henc := head_enc hr hl hh
    by_cases hp : placeE c s k = 0
    · rw [if_neg (by simp [hp])] at h
      by_cases hL : tooLargeB k n = true
      · rw [if_pos hL] at h; simp at h
      rw [if_neg hL] at h
      have hL' : tooLargeB k n = false := by simpa using hL
      by_cases hD : hasDataB k = true
      · rw [if_pos hD] at h
        by_cases hs : (N : Int) < a2 + n
        · rw [if_pos hs] at h; simp at h
        rw [if_neg hs] at h
        have hn1 := data_le hL' hD
        obtain ⟨nn, rfl⟩ := Int.eq_ofNat_of_zero_le n0
        rw [Int.toNat_natCast] at h
        by_cases hE : contentE s k 0 (strOfNums ((zs.drop a2).take nn)) = 0
        · rw [if_neg (by simp [hE])] at h
          simp only [Prod.mk.injEq, true_and] at h
          obtain ⟨rfl, rfl⟩ := h
          have h34 : k = 3 ∨ k = 4 := by unfold hasDataB at hD; simpa using hD
          have harg : argN k 0 (strOfNums ((zs.drop a2).take nn)) = nn := by
            unfold argN; rw [if_pos hD, strOfNums_size]; simp; omega
          show encItem k 0 (strOfNums ((zs.drop a2).take nn)) = _
          rw [encItemP (by omega), harg, dataI_str _ (fun z hz => hr z (List.mem_of_mem_drop (List.mem_of_mem_take hz)))]
          rcases henc with ⟨_, h1⟩ | ⟨h1, _⟩ | ⟨h1, _⟩
          · rw [h1, stretch_app (zs := zs) (a := a) (b := a2) (c := a2 + nn) (by omega) (by omega), show a2 + nn - a2 = nn by omega]
          · omega
          · omega
        · rw [if_pos hE] at h
          simp only [Prod.mk.injEq] at h
          exact absurd h.1 hE
      · rw [if_neg hD] at h
        have hD' : hasDataB k = false := by simpa using hD
        by_cases hE : contentE s k n ⟨#[]⟩ = 0
        · rw [if_neg (by simp [hE])] at h
          simp only [Prod.mk.injEq, true_and] at h
          obtain ⟨rfl, rfl⟩ := h
          have harg : argN k n ⟨#[]⟩ = n := by unfold argN; rw [if_neg hD]
          rcases henc with ⟨h6, h1⟩ | ⟨rfl, h1⟩ | ⟨rfl, h1⟩
          · rw [encItemP h6, harg, h1]
            show _ ++ dataI ⟨#[]⟩ = _
            simp [dataI]
          · rw [encItem7]; exact h1
          · rw [encItem8]; exact h1
        · rw [if_pos hE] at h
          simp only [Prod.mk.injEq] at h
          exact absurd h.1 hE
    · rw [if_pos hp] at h
      simp only [Prod.mk.injEq] at h
      exact absurd h.1 hp
  · rw [if_pos he] at h
    simp only [Prod.mk.injEq] at h
    exact absurd h.1 he

theorem decGo_ok {zs : List Int} {N : Nat} (hr : ∀ z ∈ zs, 0 ≤ z ∧ z ≤ 255) (hl : zs.length = N) : ∀ (f c : Nat) (s : List Lv) (a : Nat) (xs l : List It) (u : Nat), a ≤ N → decGo zs N f c s a xs = (0, l, u) →
    ∃ ys, l = xs ++ ys ∧ validGo c s ys = 0 ∧ a ≤ u ∧ u ≤ N ∧ encAll ys = (zs.drop a).take (u - a)
  | 0, c, s, a, xs, l, u, ha, h => by simp [decGo] at h
  | f + 1, c, s, a, xs, l, u, ha, h => by
    by_cases hc : compB c s = true
    · rw [decGo_done hc] at h
      simp only [Prod.mk.injEq, true_and] at h
      obtain ⟨rfl, rfl⟩ := h
      exact ⟨[], by simp, by rw [validGo_nil, if_pos hc], Nat.le_refl _, ha, by simp [encAll]⟩
    · have hc' : compB c s = false := by simpa using hc
      obtain ⟨er, x, a3, hi⟩ : ∃ er x a3, itemE zs N c s a = (er, x, a3) := ⟨_, _, _, rfl⟩
      by_cases he : er = 0
      · subst he
        rw [decGo_next hc' hi] at h
        obtain ⟨hck, _, hlt, hle⟩ := item_ok hr hl hc' hi
        obtain ⟨ys, rfl, hv, h1, h2, h3⟩ := decGo_ok hr hl f _ _ _ _ _ _ hle h
        refine ⟨x :: ys, by simp, by rw [validGo_yes hck]; exact hv, by omega, h2, ?_⟩
        rw [stretch_app (zs := zs) (a := a) (b := a3) (c := u) (by omega) h1, ← item_enc hr hl hi, ← h3]
        simp [encAll]
      · rw [decGo_bad hc' hi he] at h
        simp only [Prod.mk.injEq] at h
        exact absurd h.1 he
theorem decGo_err {zs : List Int} {N : Nat} : ∀ (f c : Nat) (s : List Lv) (a : Nat) (xs : List It), (decGo zs N f c s a xs).1 ≠ 0 → (decGo zs N f c s a xs).2 = ([], 0)
  | 0, c, s, a, xs, _ => rfl
  | f + 1, c, s, a, xs, h => by
    by_cases hc : compB c s = true
    · rw [decGo_done hc] at h; exact absurd rfl h
    · have hc' : compB c s = false := by simpa using hc
      obtain ⟨er, x, a3, hi⟩ : ∃ er x a3, itemE zs N c s a = (er, x, a3) := ⟨_, _, _, rfl⟩
      by_cases he : er = 0
      · subst he
        rw [decGo_next hc' hi] at h ⊢
        exact decGo_err f _ _ _ _ h
      · rw [decGo_bad hc' hi he]

/-- what is read is valid, and it is the encoding -/
theorem decE_ok {zs : List Int} {N : Nat} (hr : ∀ z ∈ zs, 0 ≤ z ∧ z ≤ 255) (hl : zs.length = N) (h : (decE zs N).1 = 0) :
    validE (decE zs N).2.1 = 0 ∧ (decE zs N).2.2 ≤ N ∧ encAll (decE zs N).2.1 = zs.take (decE zs N).2.2 := by
  obtain ⟨ys, h1, h2, _, h4, h5⟩ := decGo_ok hr hl 600 0 [] 0 [] (decE zs N).2.1 (decE zs N).2.2 (Nat.zero_le _) (by rw [← h]; rfl)
  rw [List.nil_append] at h1
  rw [h1]
  refine ⟨h2, h4, ?_⟩
  rw [h5]
  simp
theorem decE_err {zs : List Int} {N : Nat} (h : (decE zs N).1 ≠ 0) : (decE zs N).2.1 = [] ∧ (decE zs N).2.2 = 0 := by
  have := decGo_err (zs := zs) (N := N) 600 0 [] 0 [] h
  exact ⟨congrArg Prod.fst this, congrArg Prod.snd this⟩
end Go.Proofs.YtepinmeidjlmmaaDoor

/- The law CborUnique, walked. -/
namespace Go.Proofs.YtepinmeidjlmmaaDoor
open Go.RowKit
set_option maxRecDepth 100000

theorem Bys.take {w : World} {A : Option Addr} {n : Nat} {zs : List Int} (h : Bys w A n zs) (k : Nat) (hk : k ≤ n) : Bys w A k (zs.take k) := by
  refine ⟨by have := h.len; simp; omega, fun z hz => h.rng z (List.mem_of_mem_take hz), fun i hi => ?_⟩
  obtain ⟨a, e, hc⟩ := h.at_ i (by omega)
  refine ⟨a, e, hc.trans ?_⟩
  simp [List.getD, hi]
theorem own_bys {w : World} {base n : Nat} {v : Value} {zs : List Int} (h : w.ownsRow base 5 1 v n (bv zs)) (hr : ∀ z ∈ zs, 0 ≤ z ∧ z ≤ 255) : ∃ A cap, v = .slice A n cap ∧ Bys w A n zs := by
  have hl : zs.length = n := by have := h.1; rw [bv_len] at this; omega
  rcases h.2 with ⟨hv, h0⟩ | ⟨g, cap, cur, hv, _, _, h1, h2, _⟩
  · subst h0
    exact ⟨none, 0, hv, hl, hr, fun i hi => absurd hi (by omega)⟩
  · refine ⟨_, cap, hv, hl, hr, fun i hi => ⟨_, rfl, ?_⟩⟩
    have := h.cells (g := g) (by rw [hv]; rfl) i (.int .u8 (zs.getD i 0)) (by
      simp only [bv, List.getElem?_map, List.getD]
      rw [List.getElem?_eq_getElem (by omega)]; rfl)
    exact this
theorem items_own {w : World} {base n : Nat} {v : Value} {l : List It} (h : w.ownsRow base 58 3 v n (itCells l)) (hok : ∀ x ∈ l, 0 ≤ x.n ∧ x.d.size ≤ 1024) (hl : l.length ≤ 1000) : ItemsAt w w.heap.size v l := by
  have hn : n = l.length := by have h1 := h.1; rw [itCells_len] at h1; omega
  rcases h.2 with ⟨hv, h0⟩ | ⟨g, cap, cur, hv, _⟩
  · subst hv
    have : l = [] := List.eq_nil_of_length_eq_zero (by omega)
    subst this
    exact ⟨.inl ⟨rfl, rfl⟩, by simp, by simp⟩
  · subst hv
    exact itemsAt_own h (fun x hx => ⟨(hok x hx).1, by have := (hok x hx).2; unfold maxLen; omega⟩) (by omega)

set_option maxHeartbeats 2000000 in
theorem unique_law (A : Option Addr) (N cap : Nat) (zs : List Int) (w : World) (hb : Bys w A N zs) (hc : N ≤ cap) (hcm : cap ≤ 9223372036854775807) (ht : Tabs w) :
    Calls Tryd.prog 7 #[.slice A N cap] w fun e w' => e = .returned (.bool true) ∧ Below w.heap.size w w' := by
  have HB := Lib.hid hb
  have HT := Lib.hid ht
  clear hb ht
  by_cases hlt : 1000 < N
  · go_enter Tryd.func7, Tryd.ntmps7
    go_wp2_with fail
    refine (awake_any _ HT.out).mono ?_
    rintro e w1 ⟨rfl, hb1⟩
    go_wp2
    go_ret
    exact ⟨rfl, hb1⟩
  · have hD := decode_any A N cap zs w HB.out hc hcm (by omega) HT.out
    have HOK := Lib.hid (fun h => decE_ok (zs := zs) (N := N) HB.out.rng HB.out.len h)
    have HER := Lib.hid (fun h => decE_err (zs := zs) (N := N) h)
    unfold DecP at hD
    generalize decE zs N = r at *
    obtain ⟨er, l, u⟩ := r
    dsimp only at hD HOK HER
    have HD := Lib.hid hD
    clear hD
    by_cases he : er = 0
    · subst he
      obtain ⟨hv, hu, henc⟩ := HOK.out rfl
      have HV := Lib.hid hv
      have HE := Lib.hid henc
      clear hv henc
      go_enter Tryd.func7, Tryd.ntmps7
      go_wp2_with fail
      refine HD.out.mono ?_
      rintro e w1 ⟨v1, rfl, ho1, hb1, _, hok, hlen⟩
      have hI := items_own ho1 hok (by omega)
      have HI := Lib.hid hI
      have HB1 := Lib.hid hb1
      obtain ⟨A1, c1, hv1⟩ := own_form ho1
      subst hv1
      clear hI hb1 ho1 hok
      go_wp2_with fail
      refine (encode_good l _ w1 HI.out (HT.out.later HB1.out) HV.out).mono ?_
      rintro e w2 ⟨v2, rfl, ho2, hb2⟩
      rw [HE.out, show (zs.take u).length = u by have := HB.out.len; simp; omega] at ho2
      obtain ⟨A2, c2, hv2, hB2⟩ := own_bys ho2 (fun z hz => HB.out.rng z (List.mem_of_mem_take hz))
      subst hv2
      have HB2 := Lib.hid (HB1.out.trans (hb2.mono HB1.out.size))
      have HC2 := Lib.hid hB2
      have hB0 := (HB.out.take u hu).below HB2.out
      have HC0 := Lib.hid hB0
      clear ho2 hb2 hB2 hB0
      generalize zs.take u = ys at *
      have hu1 : (u : Int) ≤ (N : Int) := by omega
      have hu2 : (u : Int) ≤ (cap : Int) := by omega
      go_wp2_with fail
      refine held_begin (by kernel_rfl) ?_
      refine held_take (i := 0) (v := ?_) rfl rfl (by kernel_rfl) (by kernel_rfl) (by kernel_rfl) (fun _ _ _ h => h) (by rfl) ?_ ?_
      rotate_left
      · intro W hW
        go_simp
        try with_reducible rfl
      simp only [Act.put, List.setIfInBounds_toArray, List.set_cons_zero, List.set_cons_succ]
      refine held_take (i := 1) (v := ?_) rfl rfl (by kernel_rfl) (by kernel_rfl) (by kernel_rfl) (fun _ _ _ h => h) (by rfl) ?_ ?_
      rotate_left
      · intro W hW
        go_simp
        try with_reducible rfl
      simp only [Act.put, List.setIfInBounds_toArray, List.set_cons_zero, List.set_cons_succ]
      refine held_take (i := 2) (v := ?_) rfl rfl (by kernel_rfl) (by kernel_rfl) (by kernel_rfl) (fun _ _ _ h => h) (by rfl) ?_ ?_
      rotate_left
      · intro W hW
        go_simp
        try with_reducible rfl
      simp only [Act.put, List.setIfInBounds_toArray, List.set_cons_zero, List.set_cons_succ]
      refine held_take (i := 3) (v := ?_) rfl rfl (by kernel_rfl) (by kernel_rfl) (by kernel_rfl) (fun _ _ _ h => h) (by rfl) ?_ ?_
      rotate_left
      · intro W hW
        go_simp
        try with_reducible rfl
      simp only [Act.put, List.setIfInBounds_toArray, List.set_cons_zero, List.set_cons_succ]
      refine held_take (i := 4) (v := ?_) rfl rfl (by kernel_rfl) (by kernel_rfl) (by kernel_rfl) (fun _ _ _ h => h) (by rfl) ?_ ?_
      rotate_left
      · intro W hW
        go_simp
        try with_reducible rfl
      simp only [Act.put, List.setIfInBounds_toArray, List.set_cons_zero, List.set_cons_succ]
      refine held_take (i := 5) (v := ?_) rfl rfl (by kernel_rfl) (by kernel_rfl) (by kernel_rfl) (fun _ _ _ h => h) (by rfl) ?_ ?_
      rotate_left
      · intro W hW
        go_simp
        try with_reducible rfl
      simp only [Act.put, List.setIfInBounds_toArray, List.set_cons_zero, List.set_cons_succ]
      refine held_take (i := 6) (v := ?_) rfl rfl (by kernel_rfl) (by kernel_rfl) (by kernel_rfl) (fun _ _ _ h => h) (by rfl) ?_ ?_
      rotate_left
      · intro W hW
        go_simp
        try with_reducible rfl
      simp only [Act.put, List.setIfInBounds_toArray, List.set_cons_zero, List.set_cons_succ]
      refine held_take (i := 7) (v := ?_) rfl rfl (by kernel_rfl) (by kernel_rfl) (by kernel_rfl) (fun _ _ _ h => h) (by rfl) ?_ ?_
      rotate_left
      · intro W hW
        go_simp
        try with_reducible rfl
      simp only [Act.put, List.setIfInBounds_toArray, List.set_cons_zero, List.set_cons_succ]
      refine held_take (i := 8) (v := ?_) rfl rfl (by kernel_rfl) (by kernel_rfl) (by kernel_rfl) (fun _ _ _ h => h) (by rfl) ?_ ?_
      rotate_left
      · intro W hW
        go_simp
        try with_reducible rfl
      simp only [Act.put, List.setIfInBounds_toArray, List.set_cons_zero, List.set_cons_succ]
      refine held_take (i := 9) (v := ?_) rfl rfl (by kernel_rfl) (by kernel_rfl) (by kernel_rfl) (fun _ _ _ h => h) (by rfl) ?_ ?_
      rotate_left
      · intro W hW
        go_simp
        try with_reducible rfl
      simp only [Act.put, List.setIfInBounds_toArray, List.set_cons_zero, List.set_cons_succ]
      refine held_take (i := 10) (v := ?_) rfl rfl (by kernel_rfl) (by kernel_rfl) (by kernel_rfl) (fun _ _ _ h => h) (by rfl) ?_ ?_
      rotate_left
      · intro W hW
        have cv := conv_bys (cap := c2) (HC2.out.below ((⟨rfl, rfl, rfl, Nat.le_refl _, fun _ _ => rfl⟩ : Below w2.heap.size w2 w2.drew).trans hW))
        go_simp
        try with_reducible rfl
      simp only [Act.put, List.setIfInBounds_toArray, List.set_cons_zero, List.set_cons_succ]
      refine held_take (i := 11) (v := ?_) rfl rfl (by kernel_rfl) (by kernel_rfl) (by kernel_rfl) (fun _ _ _ h => h) (by rfl) ?_ ?_
      rotate_left
      · intro W hW
        go_simp
        try with_reducible rfl
      simp only [Act.put, List.setIfInBounds_toArray, List.set_cons_zero, List.set_cons_succ]
      refine held_take (i := 12) (v := ?_) rfl rfl (by kernel_rfl) (by kernel_rfl) (by kernel_rfl) (fun _ _ _ h => h) (by rfl) ?_ ?_
      rotate_left
      · intro W hW
        go_simp
        try with_reducible rfl
      simp only [Act.put, List.setIfInBounds_toArray, List.set_cons_zero, List.set_cons_succ]
      refine held_take (i := 13) (v := ?_) rfl rfl (by kernel_rfl) (by kernel_rfl) (by kernel_rfl) (fun _ _ _ h => h) (by rfl) ?_ ?_
      rotate_left
      · intro W hW
        go_simp
        try with_reducible rfl
      simp only [Act.put, List.setIfInBounds_toArray, List.set_cons_zero, List.set_cons_succ]
      refine held_take (i := 14) (v := ?_) rfl rfl (by kernel_rfl) (by kernel_rfl) (by kernel_rfl) (fun _ _ _ h => h) (by rfl) ?_ ?_
      rotate_left
      · intro W hW
        have cv := conv_bys (cap := cap) (HC0.out.below ((⟨rfl, rfl, rfl, Nat.le_refl _, fun _ _ => rfl⟩ : Below w2.heap.size w2 w2.drew).trans hW))
        go_simp
        try with_reducible rfl
      simp only [Act.put, List.setIfInBounds_toArray, List.set_cons_zero, List.set_cons_succ]
      refine held_take (i := 15) (v := ?_) rfl rfl (by kernel_rfl) (by kernel_rfl) (by kernel_rfl) (fun _ _ _ h => h) (by rfl) ?_ ?_
      rotate_left
      · intro W hW
        go_simp
        try with_reducible rfl
      simp only [Act.put, List.setIfInBounds_toArray, List.set_cons_zero, List.set_cons_succ]
      refine held_take (i := 16) (v := ?_) rfl rfl (by kernel_rfl) (by kernel_rfl) (by kernel_rfl) (fun _ _ _ h => h) (by rfl) ?_ ?_
      rotate_left
      · intro W hW
        go_simp
        try with_reducible rfl
      simp only [Act.put, List.setIfInBounds_toArray, List.set_cons_zero, List.set_cons_succ]
      refine held_take (i := 17) (v := ?_) rfl rfl (by kernel_rfl) (by kernel_rfl) (by kernel_rfl) (fun _ _ _ h => h) (by rfl) ?_ ?_
      rotate_left
      · intro W hW
        go_simp
        try with_reducible rfl
      simp only [Act.put, List.setIfInBounds_toArray, List.set_cons_zero, List.set_cons_succ]
      refine held_call (i := 18) (by kernel_rfl) rfl (fun K' hK => ?_)
      go_simp
      refine (awake_any _ (HT.out.later (HB2.out.trans ((⟨rfl, rfl, rfl, Nat.le_refl _, fun _ _ => rfl⟩ : Below w2.heap.size w2 w2.drew).mono HB2.out.size)))).mono ?_
      rintro e w3 ⟨rfl, hb⟩
      refine hK.out _ _ hb ?_
      clear hK K'
      have HB3 := Lib.hid ((HB2.out.trans ((⟨rfl, rfl, rfl, Nat.le_refl _, fun _ _ => rfl⟩ : Below w2.heap.size w2 w2.drew).mono HB2.out.size)).trans (hb.mono HB2.out.size))
      clear hb
      refine held_take (i := 19) (v := ?_) rfl rfl (by kernel_rfl) (by kernel_rfl) (by kernel_rfl) (fun _ _ _ h => h) (by rfl) ?_ ?_
      rotate_left
      · intro W hW
        go_simp
        try with_reducible rfl
      simp only [Act.put, List.setIfInBounds_toArray, List.set_cons_zero, List.set_cons_succ]
      refine held_take (i := 20) (v := ?_) rfl rfl (by kernel_rfl) (by kernel_rfl) (by kernel_rfl) (fun _ _ _ h => h) (by rfl) ?_ ?_
      rotate_left
      · intro W hW
        go_simp
        try with_reducible rfl
      simp only [Act.put, List.setIfInBounds_toArray, List.set_cons_zero, List.set_cons_succ]
      refine wpAnyH_done (by kernel_rfl) ?_ _
      go_wp2
      go_ret
      exact ⟨rfl, HB3.out⟩
    · obtain ⟨hl, hu⟩ := HER.out he
      subst hl hu
      have hne : (er != 0) = true := by simpa using he
      go_enter Tryd.func7, Tryd.ntmps7
      go_wp2_with fail
      refine HD.out.mono ?_
      rintro e w1 ⟨v1, rfl, ho1, hb1, hnil, _, _⟩
      have hv1 := hnil he
      subst hv1
      have HB1 := Lib.hid hb1
      clear ho1 hb1 hnil
      go_wp2_with fail
      refine (awake_any _ (HT.out.later HB1.out)).mono ?_
      rintro e w3 ⟨rfl, hb3⟩
      go_wp2
      go_ret
      exact ⟨rfl, HB1.out.trans (hb3.mono HB1.out.size)⟩
end Go.Proofs.YtepinmeidjlmmaaDoor

namespace Go.Proofs.YtepinmeidjlmmaaDoor
open Go.RowKit

set_option maxRecDepth 100000 in
set_option maxHeartbeats 400000 in
theorem light_long (a : Option Addr) (len cap : Nat) (w : World) (h : 100 < len) : Calls Tryd.prog 14 #[.slice a len cap] w fun e w' => e = .returned (.bool false) ∧ w = w' := by
  have h1 : (100 : Int) < (len : Int) := by omega
  go_enter Tryd.func14, Tryd.ntmps14
  go_wp2
  go_ret
  exact ⟨rfl, rfl⟩

set_option maxRecDepth 100000 in
set_option maxHeartbeats 400000 in
theorem light_any (l : List It) (v : Value) (w : World) (hI : ItemsAt w w.heap.size v l) (h : l.length ≤ 100) :
    Calls Tryd.prog 14 #[v] w fun e w' => e = .returned (.bool (l.all fun x => decide (x.d.size ≤ 1100))) ∧ w = w' := by
  rcases hI.form with ⟨rfl, rfl⟩ | ⟨b, off, cap, rfl, hb, hcells⟩
  · clear hI
    go_enter Tryd.func14, Tryd.ntmps14
    go_wp2_with fail
    refine wp_loop_rounds 1 ?_
    rw [rounds_succ]
    go_wp2
    go_ret
    exact ⟨rfl, rfl⟩
  · have h1 : (l.length : Int) ≤ 100 := by omega
    have HC := Lib.hid hcells
    clear hI hcells
    go_enter Tryd.func14, Tryd.ntmps14
    go_wp2_with fail
    go_loopw [3] (fun i wr => ∃ j : Nat, j ≤ l.length ∧ i = .int .i64 j ∧ w = wr ∧ ∀ i (h : i < l.length), i < j → l[i].d.size ≤ 1100) (fun i _ => l.length - (intOf i).toNat)
    case atStart => exact ⟨0, by omega, rfl, rfl, by intro i h1 h2; omega⟩
    case round =>
      obtain ⟨j, hj, rfl, rfl, hall⟩ := hrel
      have HALL := Lib.hid hall
      clear hall
      by_cases hlt : j < l.length
      · obtain ⟨q0, q1, q2⟩ := HC.out j hlt
        have hxe : Hid (∃ x, l[j] = x) := ⟨_, rfl⟩
        by_cases hs : l[j].d.size ≤ 1100
        · have HN : Hid (∀ i (h : i < l.length), i < j + 1 → l[i].d.size ≤ 1100) := fun i h1 h2 => by
            by_cases e : i = j
            · subst e; exact hs
            · exact HALL.out i h1 (by omega)
          have hs2 : (l[j].d.size : Int) ≤ 1100 := by omega
          generalize l[j] = x at q0 q1 q2 hs hs2
          go_wp2_with fail
          go_roundw
          case rel => exact ⟨j + 1, by omega, by go_num, by first | rfl | trivial, HN.out⟩
          case measure => simp [intOf]; omega
        · have HN : Hid ((l.all fun x => decide (x.d.size ≤ 1100)) = false) := by
            show (l.all fun x => decide (x.d.size ≤ 1100)) = false
            rw [List.all_eq_false]
            exact ⟨l[j], List.getElem_mem hlt, by simpa using hs⟩
          have hs2 : (1100 : Int) < (l[j].d.size : Int) := by omega
          generalize l[j] = x at q0 q1 q2 hs hs2
          go_wp2
          go_ret
          exact ⟨by rw [HN.out]; rfl, rfl⟩
      · have HN : Hid ((l.all fun x => decide (x.d.size ≤ 1100)) = true) := by
          show (l.all fun x => decide (x.d.size ≤ 1100)) = true
          rw [List.all_eq_true]
          intro x hx
          obtain ⟨i, hi, rfl⟩ := List.mem_iff_getElem.1 hx
          have := HALL.out i hi (by omega)
          simpa using this
        go_wp2
        go_ret
        exact ⟨by rw [HN.out]; rfl, rfl⟩

set_option maxRecDepth 100000 in
set_option maxHeartbeats 400000 in
/-- a list that is not light: the law answers what 'awake' answers -/
theorem validates_dark (v : Value) (w : World) (ht : Tabs w) (hL : Calls Tryd.prog 14 #[v] w fun e w' => e = .returned (.bool false) ∧ w = w') : Calls Tryd.prog 3 #[v] w fun e w' => e = .returned (.bool true) ∧ Below w.heap.size w w' := by
  have HA := Lib.hid (awake_any w ht)
  have HL := Lib.hid hL
  clear ht hL
  go_enter Tryd.func3, Tryd.ntmps3
  go_wp2_with (first | (go_at_call 14; refine HL.out.mono ?_; rintro e w1 ⟨rfl, rfl⟩) | (go_at_call 15; refine HA.out.mono ?_; rintro e w1 ⟨rfl, hb1⟩))
  go_ret
  exact ⟨rfl, hb1⟩

theorem conv_nil (W : World) : (convert 25 9 (.slice none 0 0)).run Tryd.prog W = .ok (.string ByteArray.empty) W := run_convert_bytes_nil W 25 5 Tryd.underlying25 Tryd.underlying5 0 0 9 Tryd.underlying9

set_option maxRecDepth 100000 in
set_option maxHeartbeats 1000000 in
theorem validates_bad (v : Value) (E : Int) (w : World) (_ : E ≠ 0) (hL : Calls Tryd.prog 14 #[v] w fun e w' => e = .returned (.bool true) ∧ w = w')
    (hA : ∀ W, Below w.heap.size w W → Calls Tryd.prog 15 #[] W fun e w' => e = .returned (.bool true) ∧ Below W.heap.size W w')
    (h16 : ∀ W, Below w.heap.size w W → Calls Tryd.prog 16 #[v] W fun e w' => e = .returned (.tuple #[.slice none 0 0, .int .i64 E]) ∧ Below W.heap.size W w')
    (h17 : ∀ W, Below w.heap.size w W → Calls Tryd.prog 17 #[v] W fun e w' => e = .returned (.tuple #[.slice none 0 0, .int .i64 E]) ∧ Below W.heap.size W w')
    (h18 : ∀ W, Below w.heap.size w W → Calls Tryd.prog 18 #[v] W fun e w' => e = .returned (.int .i64 E) ∧ Below W.heap.size W w')
    (h19 : ∀ W, Below w.heap.size w W → Calls Tryd.prog 19 #[v] W fun e w' => e = .returned (.int .i64 E) ∧ Below W.heap.size W w') :
    Calls Tryd.prog 3 #[v] w fun e w' => e = .returned (.bool true) ∧ Below w.heap.size w w' := by
  have HL := Lib.hid hL
  have HA := Lib.hid hA
  have H16 := Lib.hid h16
  have H17 := Lib.hid h17
  have H18 := Lib.hid h18
  have H19 := Lib.hid h19
  have hcn := conv_nil
  clear hL hA h16 h17 h18 h19
  go_enter Tryd.func3, Tryd.ntmps3
  go_wp2_with (go_at_call 14; refine HL.out.mono ?_; rintro e w1 ⟨rfl, rfl⟩)
  refine (H16.out _ (Below.refl _ _)).mono ?_
  rintro e w2 ⟨rfl, hb2⟩
  go_wp2_with fail
  refine (H17.out _ hb2).mono ?_
  rintro e w3 ⟨rfl, hb3⟩
  have hB3 := below_aft hb2 hb3
  go_wp2_with fail
  refine (H18.out _ hB3).mono ?_
  rintro e w4 ⟨rfl, hb4⟩
  have hB4 := below_aft hB3 hb4
  go_wp2_with fail
  refine (H19.out _ hB4).mono ?_
  rintro e w5 ⟨rfl, hb5⟩
  have hB5 := below_aft hB4 hb5
  go_wp2_with fail
  refine (HA.out _ hB5).mono ?_
  rintro e w6 ⟨rfl, hb6⟩
  go_wp2
  go_ret
  exact ⟨rfl, below_aft hB5 hb6⟩

set_option maxRecDepth 100000 in
set_option maxHeartbeats 1000000 in
theorem validates_good (v : Value) (l1 l2 : List Int) (w : World) (hp1 : 0 < l1.length) (hp2 : 0 < l2.length) (hsame : strOfNums l2 = strOfNums l1) (hL : Calls Tryd.prog 14 #[v] w fun e w' => e = .returned (.bool true) ∧ w = w')
    (hA : ∀ W, Below w.heap.size w W → Calls Tryd.prog 15 #[] W fun e w' => e = .returned (.bool true) ∧ Below W.heap.size W w')
    (h16 : ∀ W, Below w.heap.size w W → Calls Tryd.prog 16 #[v] W fun e w' => ∃ v', e = .returned (.tuple #[v', .int .i64 0]) ∧ NewBytes W l1 v' w')
    (h17 : ∀ W, Below w.heap.size w W → Calls Tryd.prog 17 #[v] W fun e w' => ∃ v', e = .returned (.tuple #[v', .int .i64 0]) ∧ NewBytes W l2 v' w')
    (h18 : ∀ W, Below w.heap.size w W → Calls Tryd.prog 18 #[v] W fun e w' => e = .returned (.int .i64 0) ∧ Below W.heap.size W w')
    (h19 : ∀ W, Below w.heap.size w W → Calls Tryd.prog 19 #[v] W fun e w' => e = .returned (.int .i64 0) ∧ Below W.heap.size W w') :
    Calls Tryd.prog 3 #[v] w fun e w' => e = .returned (.bool true) ∧ Below w.heap.size w w' := by
  have HL := Lib.hid hL
  have HA := Lib.hid hA
  have H16 := Lib.hid h16
  have H17 := Lib.hid h17
  have H18 := Lib.hid h18
  have H19 := Lib.hid h19
  clear hL hA h16 h17 h18 h19
  go_enter Tryd.func3, Tryd.ntmps3
  go_wp2_with (go_at_call 14; refine HL.out.mono ?_; rintro e w1 ⟨rfl, rfl⟩)
  refine (H16.out _ (Below.refl _ _)).mono ?_
  rintro e w2 ⟨v2, rfl, ho2, hb2⟩
  go_wp2_with fail
  refine (H17.out _ hb2).mono ?_
  rintro e w3 ⟨v3, rfl, ho3, hb3⟩
  have hB3 := below_aft hb2 hb3
  go_wp2_with fail
  refine (H18.out _ hB3).mono ?_
  rintro e w4 ⟨rfl, hb4⟩
  have hB4 := below_aft hB3 hb4
  go_wp2_with fail
  refine (H19.out _ hB4).mono ?_
  rintro e w5 ⟨rfl, hb5⟩
  have hB5 := below_aft hB4 hb5
  have k1 := conv_row (own_below (own_below (own_below ho2 hb3) hb4) hb5) hp1
  have k2 := conv_row (own_below (own_below ho3 hb4) hb5) hp2
  rw [hsame] at k2
  clear ho2 ho3
  go_wp2_with fail
  refine (HA.out _ hB5).mono ?_
  rintro e w6 ⟨rfl, hb6⟩
  go_wp2
  go_ret
  exact ⟨rfl, below_aft hB5 hb6⟩

theorem encAll_pos {l : List It} (h : 0 < l.length) (hs : ∀ x ∈ l, Sound x) (h2 : ∀ x ∈ l, shapeB x.k x.n x.d = true) : 0 < (encAll l).length ∧ 0 < (encAllR l).length := by
  have e : (encAllR l).length = (encAll l).length := by
    have := congrArg List.length (enc_same l hs h2)
    simpa [Lib.bytesOf] using this
  cases l with
  | nil => simp at h
  | cons x r =>
    have e1 : encAllR (x :: r) = dataI (bytesS x.k x.n x.d) ++ encAllR r := by simp [encAllR]
    have h3 : 0 < (dataI (bytesS x.k x.n x.d)).length := by
      have := bytesS_ne x.k x.n x.d
      rw [dataI_len]
      rcases Nat.eq_zero_or_pos (bytesS x.k x.n x.d).size with h0 | h0
      · exfalso
        have h4 : (bytesS x.k x.n x.d).data.toList = [] := by
          apply List.eq_nil_of_length_eq_zero
          rw [Array.length_toList]; exact h0
        rw [Lib.toList_data, h4] at this
        cases this
      · exact h0
    have h5 : 0 < (encAllR (x :: r)).length := by rw [e1, List.length_append]; omega
    exact ⟨by omega, h5⟩

/-- the law, for items that lie in memory as a []api.Item -/
theorem validates_any (l : List It) (v : Value) (w : World) (hI : ItemsAt w w.heap.size v l) (ht : Tabs w) (h : l.length ≤ 100) : Calls Tryd.prog 3 #[v] w fun e w' => e = .returned (.bool true) ∧ Below w.heap.size w w' := by
  have hL := light_any l v w hI h
  cases hl : (l.all fun x => decide (x.d.size ≤ 1100)) with
  | false =>
    rw [hl] at hL
    exact validates_dark v w ht hL
  | true =>
    rw [hl] at hL
    have hpos : ∀ x ∈ l, 0 ≤ x.n := fun x hx => (hI.ok x hx).1
    have hI2 : ∀ W, Below w.heap.size w W → ItemsAt W W.heap.size v l := fun W hW => itemsAt_mono (hI.below hW) hW.size
    have hA : ∀ W, Below w.heap.size w W → Calls Tryd.prog 15 #[] W fun e w' => e = .returned (.bool true) ∧ Below W.heap.size W w' := fun W hW => awake_any W (ht.later hW)
    have h18 := fun W (hW : Below w.heap.size w W) => validate_any l v W (hI2 W hW) (ht.later hW)
    have h19 := fun W (hW : Below w.heap.size w W) => validR_any l v W (hI2 W hW) (ht.later hW)
    rw [← valid_same l hpos] at h19
    by_cases hz : validE l = 0
    · have hzR : validR l = 0 := by rw [← valid_same l hpos]; exact hz
      have hS := (validGo_sound l 0 [] hpos hz).1
      have hsh := validGo_shape l 0 [] hz
      have hlen0 : 0 < l.length := by
        cases l with
        | nil => exact absurd hz (by decide)
        | cons a b => simp
      have hp := encAll_pos hlen0 hS hsh
      rw [hz] at h18 h19
      exact validates_good v (encAll l) (encAllR l) w hp.1 hp.2 (strOf_same hS hsh) hL hA (fun W hW => encode_good l v W (hI2 W hW) (ht.later hW) hz) (fun W hW => encodeR_good l v W (hI2 W hW) (ht.later hW) hzR hS (by omega)) h18 h19
    · have hzR : validR l ≠ 0 := by rw [← valid_same l hpos]; exact hz
      have h17 := fun W (hW : Below w.heap.size w W) => encodeR_bad l v W (hI2 W hW) (ht.later hW) hzR
      rw [← valid_same l hpos] at h17
      exact validates_bad v (validE l) w hz hL hA (fun W hW => encode_bad l v W (hI2 W hW) (ht.later hW) hz) h17 h18 h19

end Go.Proofs.YtepinmeidjlmmaaDoor

namespace Go.Proofs.YtepinmeidjlmmaaDoor
open Go.ChangeShapes Go.WideShapes Go.ChangeAt Go.RowKit Go.Deep

set_option maxRecDepth 100000 in
set_option maxHeartbeats 400000 in
theorem light0 (a : Option Addr) (cap : Nat) (w : World) : Calls Tryd.prog 14 #[.slice a 0 cap] w fun e w' => e = .returned (.bool true) ∧ w = w' := by
  go_enter Tryd.func14, Tryd.ntmps14
  go_wp2_with fail
  refine wp_loop_rounds 1 ?_
  rw [rounds_succ]
  go_wp2
  go_ret
  exact ⟨rfl, rfl⟩

set_option maxRecDepth 100000 in
set_option maxHeartbeats 1000000 in
theorem valid0 (a : Option Addr) (cap : Nat) (w : World) : Calls Tryd.prog 18 #[.slice a 0 cap] w fun e w' => e = .returned (.int .i64 1) ∧ Below w.heap.size w w' := by
  have HN0 : Hid (nestAt (w.alloc (.cells #[.int .i64 0, .slice none 0 0] 68)) (w.heap.size + 1) w.heap.size 0 [] (.slice none 0 0)) :=
    ⟨by simp, by simp, by simp, by simp, World.ownsRow_nil _ _ _ _, by omega, by simp, by simp, by omega, by simp⟩
  have HB0 := Lib.hid ((Below.refl w.heap.size w).alloc (Nat.le_refl _) (.cells #[.int .i64 0, .slice none 0 0] 68))
  go_enter Tryd.func18, Tryd.ntmps18
  go_wp2_with fail
  go_loopw [9] (fun i wr => i = .int .i64 0 ∧ nestAt wr (w.heap.size + 1) w.heap.size 0 [] (.slice none 0 0) ∧ Below w.heap.size w wr) (fun _ _ => 0)
  case atStart => exact ⟨rfl, HN0.out, HB0.out⟩
  case round =>
    obtain ⟨rfl, hn, hb⟩ := hrel
    have HN := Lib.hid hn
    have HB := Lib.hid hb
    clear hn hb
    have hcb : compB 0 [] = false := rfl
    go_wp2_with (go_at_call 41; refine (complete_any _ HN.out).mono ?_; rintro e w' ⟨rfl, rfl⟩)
    go_ret
    exact ⟨rfl, HB.out⟩

set_option maxRecDepth 100000 in
set_option maxHeartbeats 1000000 in
theorem encode_bad_of (v : Value) (E : Int) (w : World) (hV : Calls Tryd.prog 18 #[v] w fun e w' => e = .returned (.int .i64 E) ∧ Below w.heap.size w w') (hz : E ≠ 0) :
    Calls Tryd.prog 16 #[v] w fun e w' => e = .returned (.tuple #[.slice none 0 0, .int .i64 E]) ∧ Below w.heap.size w w' := by
  have HV := Lib.hid hV
  have hzb : (E != 0) = true := by simpa using hz
  clear hV hz
  go_enter Tryd.func16, Tryd.ntmps16
  go_wp2_with (go_at_call 18; refine HV.out.mono ?_; rintro e w1 ⟨rfl, hb1⟩)
  go_ret2
  exact ⟨rfl, hb1⟩
set_option maxRecDepth 100000 in
set_option maxHeartbeats 1000000 in
theorem encodeR_bad_of (v : Value) (E : Int) (w : World) (hV : Calls Tryd.prog 19 #[v] w fun e w' => e = .returned (.int .i64 E) ∧ Below w.heap.size w w') (hz : E ≠ 0) :
    Calls Tryd.prog 17 #[v] w fun e w' => e = .returned (.tuple #[.slice none 0 0, .int .i64 E]) ∧ Below w.heap.size w w' := by
  have HV := Lib.hid hV
  have hzb : (E != 0) = true := by simpa using hz
  clear hV hz
  go_enter Tryd.func17, Tryd.ntmps17
  go_wp2_with (go_at_call 19; refine HV.out.mono ?_; rintro e w1 ⟨rfl, hb1⟩)
  go_ret2
  exact ⟨rfl, hb1⟩

theorem validR0 (a : Option Addr) (cap : Nat) (w : World) : Calls Tryd.prog 19 #[.slice a 0 cap] w fun e w' => e = .returned (.int .i64 1) ∧ Below w.heap.size w w' :=
  validR_of (0, 1) 0 a cap w (walk_end a 0 cap 0 0 false ⟨#[]⟩ w (Nat.le_refl _))

theorem validates_empty (a : Option Addr) (cap : Nat) (w : World) (ht : Tabs w) : Calls Tryd.prog 3 #[.slice a 0 cap] w fun e w' => e = .returned (.bool true) ∧ Below w.heap.size w w' :=
  validates_bad _ 1 w (by omega) (light0 a cap w) (fun W hW => awake_any W (ht.later hW)) (fun W _ => encode_bad_of _ 1 W (valid0 a cap W) (by omega)) (fun W _ => encodeR_bad_of _ 1 W (validR0 a cap W) (by omega)) (fun W _ => valid0 a cap W) (fun W _ => validR0 a cap W)

set_option maxRecDepth 100000
theorem tryd_cells58 : Tryd.prog.cellsOf 58 = 3 := by kernel_rfl
theorem tryd_cells3 : Tryd.prog.cellsOf 3 = 1 := by kernel_rfl
theorem tryd_cells45 : Tryd.prog.cellsOf 45 = 1 := by kernel_rfl
theorem tryd_cells9 : Tryd.prog.cellsOf 9 = 1 := by kernel_rfl

theorem add_add (b off i j : Nat) : ((⟨b, off, none⟩ : Addr).add i).add j = ⟨b, off + i + j, none⟩ := by
  unfold Addr.add
  split <;> split <;> simp_all [Nat.add_assoc]

/-- the three cells of an item -/
theorem item_cells {H : Type} {enc : TypeId × Value → H} {W : World} {base : Nat} {sp : Nat → Bool} {held : Bool} {fuel : Nat} {cs : List Value} {x : DataW H × List MemPlace} (h : DataW.trod enc Tryd.prog W base sp held fuel 58 cs = some x) :
    ∃ (k n : Int) (d : ByteArray), cs = [.int .i64 k, .int .u64 n, .string d] ∧ 0 ≤ n ∧ d.size ≤ maxLen := by
  obtain ⟨xs, m, rfl, _, hl, hxl, hall⟩ := DataW.trod_struct Tryd.underlying58 h
  rw [tryd_cells58] at hl
  match cs, hl with
  | [c0, c1, c2], _ =>
    have h0 : DataW.trod enc Tryd.prog W base sp held m 3 (([c0, c1, c2].drop 0).take (Tryd.prog.cellsOf 3)) = xs[0]? := hall 0 _ rfl
    have h1 : DataW.trod enc Tryd.prog W base sp held m 45 (([c0, c1, c2].drop 1).take (Tryd.prog.cellsOf 45)) = xs[1]? := hall 1 _ rfl
    have h2 : DataW.trod enc Tryd.prog W base sp held m 9 (([c0, c1, c2].drop 2).take (Tryd.prog.cellsOf 9)) = xs[2]? := hall 2 _ rfl
    rw [tryd_cells3] at h0
    rw [tryd_cells45] at h1
    rw [tryd_cells9] at h2
    have l0 : 0 < xs.length := by rw [hxl]; decide
    have l1 : 1 < xs.length := by rw [hxl]; decide
    have l2 : 2 < xs.length := by rw [hxl]; decide
    rw [List.getElem?_eq_getElem l0] at h0
    rw [List.getElem?_eq_getElem l1] at h1
    rw [List.getElem?_eq_getElem l2] at h2
    obtain ⟨k, e0, _, _⟩ := DataW.trod_int Tryd.underlying3 h0
    obtain ⟨n, e1, _, wn⟩ := DataW.trod_int Tryd.underlying45 h1
    obtain ⟨d, e2, _, hd⟩ := DataW.trod_string Tryd.underlying9 h2
    simp at e0 e1 e2
    subst e0 e1 e2
    exact ⟨k, n, d, rfl, (u64_of_wf wn).1, hd⟩

/-- a []api.Item argument, opened -/
theorem open_items {H : Type} {enc : TypeId × Value → H} {W : World} {b0 base : Nat} {r : Reach} {v : Value} {d : DataW H} {ps : List MemPlace} (hval : Value.okWide Tryd.prog W r b0 22 v) (hd : DataW.Trod enc Tryd.prog W base (fun _ => true) true 22 v d ps) :
    ∃ (a : Option Addr) (len cap : Nat), v = .slice a len cap ∧ (0 < len → len ≤ 1000 → ∃ l : List It, l.length = len ∧ ItemsAt W W.heap.size v l) := by
  obtain ⟨a0, len, cap, rfl⟩ := okWide_slice Tryd.underlying22 hval
  obtain ⟨fuel, hf⟩ := hd
  refine ⟨a0, len, cap, rfl, fun h0 h1 => ?_⟩
  rcases open_slice Tryd.underlying22 hf with ⟨hcs, hx⟩ | ⟨a, len', cap', m, n, D, Pl, hcs, _, hl, hm, hmm, hx, hcell⟩
  · simp [Value.cells] at hcs
    omega
  · simp [Value.cells] at hcs
    obtain ⟨rfl, rfl, rfl⟩ := hcs
    simp only [if_true] at hmm
    subst hmm
    rw [tryd_cells58] at hcell
    have hsp : a.spot = none := by
      obtain ⟨cs', hc1, hc2⟩ := hcell 0 (by omega)
      obtain ⟨_, _, h3⟩ := World.cells?_some hc1
      obtain ⟨k, n, d, rfl, _⟩ := item_cells hc2
      have := h3 0 (by omega)
      have h4 : W.cell? a = some (.int .i64 k) := by simpa [Addr.add] using this
      exact World.cell?_spot h4
    obtain ⟨b, off, spot⟩ := a
    simp only at hsp
    subst hsp
    have hx : ∀ i, i < len → ∃ x : It, (W.cell? ⟨b, off + i * 3, none⟩ = some (.int .i64 x.k) ∧ W.cell? ⟨b, off + i * 3 + 1, none⟩ = some (.int .u64 x.n) ∧ W.cell? ⟨b, off + i * 3 + 2, none⟩ = some (.string x.d)) ∧ 0 ≤ x.n ∧ x.d.size ≤ maxLen := fun i hi => by
      obtain ⟨cs', hc1, hc2⟩ := hcell i (by omega)
      obtain ⟨_, _, h3⟩ := World.cells?_some hc1
      obtain ⟨k, n, d, rfl, hn, hd⟩ := item_cells hc2
      have g0 := h3 0 (by omega)
      have g1 := h3 1 (by omega)
      have g2 := h3 2 (by omega)
      rw [add_add] at g0 g1 g2
      exact ⟨⟨k, n, d⟩, ⟨g0, g1, g2⟩, hn, hd⟩
    haveI : Inhabited It := ⟨⟨0, 0, ⟨#[]⟩⟩⟩
    obtain ⟨V, hV⟩ := choose_lt hx
    refine ⟨(List.range len).map V, by simp, ⟨.inr ⟨b, off, m, by simp, ?_, fun i hi => ?_⟩, fun x hx => ?_, by simp; omega⟩⟩
    · exact cell_lt (hV 0 h0).1.1
    · have hi' : i < len := by simpa using hi
      have e : ((List.range len).map V)[i] = V i := by simp
      rw [e]
      exact (hV i hi').1
    · obtain ⟨i, hi, rfl⟩ := List.mem_map.1 hx
      exact (hV i (by simpa using hi)).2

end Go.Proofs.YtepinmeidjlmmaaDoor
