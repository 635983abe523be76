/- Decode over any bytes. -/
import Derived.Test.YtepinmeidjlmmaaDoorH7
namespace Go.Proofs.YtepinmeidjlmmaaDoor
open Go.RowKit
set_option maxRecDepth 100000

/-- what is read from here on: error, items, the place behind them -/
def decGo (zs : List Int) (N : Nat) : Nat → Nat → List Lv → Nat → List It → Int × List It × Nat
  | 0, _, _, _, _ => (8, [], 0)
  | f + 1, c, s, a, xs =>
    if compB c s = true then (0, xs, a)
    else if (itemE zs N c s a).1 ≠ 0 then ((itemE zs N c s a).1, [], 0)
    else decGo zs N f (c + 1) (enterS s (itemE zs N c s a).2.1.k (itemE zs N c s a).2.1.n (itemE zs N c s a).2.1.d) (itemE zs N c s a).2.2 (xs ++ [(itemE zs N c s a).2.1])
def decE (zs : List Int) (N : Nat) : Int × List It × Nat := decGo zs N 600 0 [] 0 []

/-- RdS behind 'enter' -/
theorem RdS.nf {w w' : World} {p base c c' : Nat} {s s' : List Lv} {A : Option Addr} {N cap a : Nat} {zs : List Int} (h : RdS w p base c s A N cap a zs) (hn : NF p w w') (hv : ∃ v, nestAt w' base p c' s' v) : RdS w' p base c' s' A N cap a zs :=
  ⟨hv, ⟨(hn.cell 2 (by omega)).trans h.rd.inp, (hn.cell 3 (by omega)).trans h.rd.pos, (hn.frz 3).trans h.rd.fr, h.rd.hcap, h.rd.hcm, h.rd.hN, h.rd.hat⟩, h.by_.below hn.below, h.tabs.below hn.below h.p4, h.p4⟩

theorem own_rf {w w' : World} {p base e size n : Nat} {v : Value} {xs : List Value} (h : w.ownsRow base e size v n xs) (hr : RF p w w') (hp : p < base) : w'.ownsRow base e size v n xs := by
  refine ⟨h.1, ?_⟩
  rcases h.2 with h0 | ⟨g, cap, cur, hv, hg, hh, hc⟩
  · exact .inl h0
  · exact .inr ⟨g, cap, cur, hv, hg, by rw [hr.block g (lt_of_heap hh) (by omega), hh], hc⟩
theorem own_nf {w w' : World} {p base e size n : Nat} {v : Value} {xs : List Value} (h : w.ownsRow base e size v n xs) (hr : NF p w w') (hp : p < base) (he : e ≠ 100) : w'.ownsRow base e size v n xs := by
  refine ⟨h.1, ?_⟩
  rcases h.2 with h0 | ⟨g, cap, cur, hv, hg, hh, hc⟩
  · exact .inl h0
  · exact .inr ⟨g, cap, cur, hv, hg, by rw [hr.block g (lt_of_heap hh) (by omega) (by rw [hh]; intro cur' fr e'; cases e'; exact he rfl), hh], hc⟩
theorem own_base {w : World} {base base' e size n : Nat} {v : Value} {xs : List Value} (h : w.ownsRow base e size v n xs) (hb : base' ≤ base) : w.ownsRow base' e size v n xs := by
  refine ⟨h.1, ?_⟩
  rcases h.2 with h0 | ⟨g, cap, cur, hv, hg, hh⟩
  · exact .inl h0
  · exact .inr ⟨g, cap, cur, hv, by omega, hh⟩
/-- append(a, s...) of items, a the call's own: rows of other types stay -/
theorem app_items2 {ops : Array Oper} {rest : List Oper} {o : Oper} {a : Act} {Q : Exit → Act → World → Prop} {w : World} (hgd : o.guard = none) (s x : Operand)
    (ho : o.op = .call { callee := .builtin .append, args := #[s, x], argTypes := #[22, 22] })
    (base : Nat) (v : Value) (n : Nat) (xs : List It) (l : List It) (B b off cap : Nat) (hown : w.ownsRow base 58 3 v n (itCells xs)) (hs : a.eval s = v)
    (hI : ItemsAt w B (.slice (some ⟨b, off, none⟩) l.length cap) l) (hx : a.eval x = .slice (some ⟨b, off, none⟩) l.length cap) (hne : l ≠ []) (hn : n ≤ 1000000) (hl : l.length ≤ 1000000) (hb : base ≤ w.heap.size)
    (h : ∀ v' w', w'.ownsRow base 58 3 v' (n + l.length) (itCells (xs ++ l)) → Below base w w' → KeptT 58 w w' → wpList Tryd.prog ops Q rest (a.put o.dst v') w') :
    wpList Tryd.prog ops Q (o :: rest) a w := by
  obtain ⟨i0, hi, hz0, hz1, hz2⟩ := info_parts info58
  refine wpList_append_own _ hgd s x 22 ho base 58 i0 _ 3 32 Tryd.underlying22 hi hz0 hz1 hz2 rfl (by decide) v n _ hs hown ⟨b, off, none⟩ l.length cap (itCells l) hx (itCells_len l) (itemsAt_src hI hne).2 (itCells_one l) (by unfold maxLen; omega) (by omega) hb ?_
  intro v' w' h1 h2 _
  rw [← itCells_app] at h1
  exact h v' w' h1 (below_of_grown hown hb h2) (KeptT.grown hown h2)
theorem RdS.kept {w w' : World} {p base c : Nat} {s : List Lv} {A : Option Addr} {N cap a : Nat} {zs : List Int} (h : RdS w p base c s A N cap a zs) (hk : KeptT 58 w w') (hb : Below (p + 1) w w') : RdS w' p base c s A N cap a zs := by
  obtain ⟨v, hv⟩ := h.nest
  have hlt : p < p + 1 := Nat.lt_succ_self p
  refine ⟨⟨v, (hb.cell (p := ⟨p, 0, none⟩) hlt).trans hv.cnt, (hb.cell (p := ⟨p, 1, none⟩) hlt).trans hv.lv, (hb.frozen (p := ⟨p, 0, none⟩) hlt).trans hv.fr0, (hb.frozen (p := ⟨p, 1, none⟩) hlt).trans hv.fr1, ?_, hv.lt, Nat.le_trans hv.hb hk.size, hv.len, hv.c512, hv.ok⟩,
    ⟨(hb.cell (p := ⟨p, 2, none⟩) hlt).trans h.rd.inp, (hb.cell (p := ⟨p, 3, none⟩) hlt).trans h.rd.pos, (hb.frozen (p := ⟨p, 3, none⟩) hlt).trans h.rd.fr, h.rd.hcap, h.rd.hcm, h.rd.hN, h.rd.hat⟩, h.by_.below (hb.mono (Nat.le_succ p)), h.tabs.below (hb.mono (Nat.le_succ p)) h.p4, h.p4⟩
  refine ⟨hv.own.1, ?_⟩
  rcases hv.own.2 with h0 | ⟨g, cap, cur, hv', hg, hh, hc⟩
  · exact .inl h0
  · exact .inr ⟨g, cap, cur, hv', hg, hk.other hh (by decide), hc⟩
theorem own_form {w : World} {base e size n : Nat} {v : Value} {xs : List Value} (h : w.ownsRow base e size v n xs) : ∃ A cap, v = .slice A n cap := by
  rcases h.2 with ⟨h0, h1⟩ | ⟨g, cap, cur, hv, _⟩
  · exact ⟨none, 0, by rw [h0, h1]⟩
  · exact ⟨_, _, hv⟩
theorem Box.nf {W W' : World} {p B : Nat} {k n : Int} {d : ByteArray} (h : Box W B k n d) (hr : NF p W W') (hne : B ≠ p) : Box W' B k n d := by
  have := hr.block B h.lt hne (by unfold Box at h; rw [h]; intro cur fr e; cases e)
  exact this.trans h
theorem decGo_done {zs : List Int} {N f c : Nat} {s : List Lv} {a : Nat} {xs : List It} (h : compB c s = true) : decGo zs N (f + 1) c s a xs = (0, xs, a) := by simp [decGo, h]
theorem decGo_bad {zs : List Int} {N f c : Nat} {s : List Lv} {a : Nat} {xs : List It} {er : Int} {x : It} {a3 : Nat} (h : compB c s = false) (hi : itemE zs N c s a = (er, x, a3)) (he : er ≠ 0) : decGo zs N (f + 1) c s a xs = (er, [], 0) := by simp [decGo, h, hi, he]
theorem decGo_next {zs : List Int} {N f c : Nat} {s : List Lv} {a : Nat} {xs : List It} {x : It} {a3 : Nat} (h : compB c s = false) (hi : itemE zs N c s a = (0, x, a3)) : decGo zs N (f + 1) c s a xs = decGo zs N f (c + 1) (enterS s x.k x.n x.d) a3 (xs ++ [x]) := by simp [decGo, h, hi]

def DecP (zs : List Int) (N : Nat) (w : World) (e : Ending) (w' : World) : Prop :=
  ∃ v, e = .returned (.tuple #[v, .int .i64 (decE zs N).2.2, .int .i64 (decE zs N).1]) ∧ w'.ownsRow w.heap.size 58 3 v (decE zs N).2.1.length (itCells (decE zs N).2.1) ∧ Below w.heap.size w w' ∧ ((decE zs N).1 ≠ 0 → v = .slice none 0 0) ∧ (∀ x ∈ (decE zs N).2.1, 0 ≤ x.n ∧ x.d.size ≤ 1024) ∧ (decE zs N).2.1.length ≤ 600

set_option maxHeartbeats 2000000 in
theorem decode_any (A : Option Addr) (N cap : Nat) (zs : List Int) (w : World) (hb : Bys w A N zs) (hc : N ≤ cap) (hcm : cap ≤ 9223372036854775807) (hN : N ≤ 1000000000000) (ht : Tabs w) :
    Calls Tryd.prog 22 #[.slice A N cap] w (DecP zs N w) := by
  have hB0 : Below w.heap.size w (w.alloc (.cells #[.int .i64 0, .slice none 0 0, .slice A N cap, .int .i64 0] 77)) := (Below.refl _ w).alloc (Nat.le_refl _) _
  have hN0 : nestAt (w.alloc (.cells #[.int .i64 0, .slice none 0 0, .slice A N cap, .int .i64 0] 77)) (w.heap.size + 1) w.heap.size 0 [] (.slice none 0 0) :=
    ⟨by simp, by simp, by simp, by simp, World.ownsRow_nil _ _ _ _, by omega, by simp, by simp, by omega, by simp⟩
  have hR : Rd (w.alloc (.cells #[.int .i64 0, .slice none 0 0, .slice A N cap, .int .i64 0] 77)) w.heap.size A N cap 0 :=
    ⟨by simp, by simp, by simp, hc, hcm, hN, by omega⟩
  have HS := Lib.hid (⟨⟨_, hN0⟩, hR, (BysB.of hb).below hB0, ht.later hB0, ht.tz.hs⟩ : RdS _ w.heap.size (w.heap.size + 1) 0 [] A N cap 0 zs)
  have HB0 := Lib.hid hB0
  have HBY := Lib.hid hb
  clear hR hN0 hB0 hb ht
  go_enter Tryd.func22, Tryd.ntmps22
  go_wp2_with fail
  go_loopw [2] (fun v wr => ∃ c s a xs, xs.length = c ∧ c ≤ 512 ∧ (∃ A2 cap2, v = .slice A2 c cap2) ∧ Hid (wr.ownsRow (w.heap.size + 1) 58 3 v c (itCells xs)) ∧ Hid (RdS wr w.heap.size (w.heap.size + 1) c s A N cap a zs) ∧ Below w.heap.size w wr ∧ Hid (∀ t r, s = t :: r → 1 ≤ t.mi) ∧ Hid (decGo zs N (600 - c) c s a xs = decE zs N) ∧ Hid (∀ x ∈ xs, 0 ≤ x.n ∧ x.d.size ≤ 1024)) (fun v _ => match v with | .slice _ m _ => 600 - m | _ => 0)
  case atStart => exact ⟨0, [], 0, [], rfl, by omega, ⟨none, 0, rfl⟩, Lib.hid (World.ownsRow_nil _ _ _ _), HS, HB0.out, Lib.hid (by simp), Lib.hid rfl, Lib.hid (by simp)⟩
  case round =>
    obtain ⟨c, s, a, xs, hxl, hc512, ⟨A2, cap2, rfl⟩, HO, HR, hbw, HT, HG, HX⟩ := hrel
    have HBW := Lib.hid hbw
    have HXL := Lib.hid hxl
    obtain ⟨v0, hv0⟩ := HR.out.nest
    have HV := Lib.hid hv0
    have hpos := HR.out.rd.pos
    have hpw := HR.out.plt
    have h600 : 600 - c = (600 - (c + 1)) + 1 := by omega
    have H6 := Lib.hid h600
    clear hbw hv0 h600 hxl
    by_cases hcomp : compB c s = true
    · have HCB := Lib.hid hcomp
      clear hcomp
      have hfin : decE zs N = (0, xs, a) := by rw [← HG.out, H6.out]; exact decGo_done HCB.out
      have HF := Lib.hid hfin
      clear hfin
      go_wp2_with (go_at_call 41; refine (complete_any _ HV.out).mono ?_; rintro e w' ⟨rfl, rfl⟩; rw [HCB.out])
      go_quiet (fail)
      go_wp2
      go_ret3
      refine ⟨.slice A2 c cap2, by rw [HF.out]; rfl, by rw [HF.out, HXL.out]; exact own_base HO.out (by omega), HBW.out.trans ⟨rfl, rfl, rfl, Nat.le_refl _, fun _ _ => rfl⟩, fun h => by rw [HF.out] at h; exact absurd rfl h, by rw [HF.out]; exact HX.out, by rw [HF.out, HXL.out]; omega⟩
    · have hcomp' : compB c s = false := by simpa using hcomp
      have HCB := Lib.hid hcomp'
      clear hcomp hcomp'
      obtain ⟨er, x, a3, hie⟩ : ∃ er x a3, itemE zs N c s a = (er, x, a3) := ⟨_, _, _, rfl⟩
      have hI := itm_any w.heap.size (w.heap.size + 1) c s A N cap a zs wr HR.out
      rw [hie] at hI
      have HI := Lib.hid hI
      clear hI hpos
      by_cases he : er = 0
      · subst he
        obtain ⟨hck, hn0, _, _⟩ := item_ok HBY.out.rng HBY.out.len HCB.out hie
        obtain ⟨q512, qk1, qk8, q7, qd, q5, q6, qs, qkey, _⟩ := check_zero hck
        have hnext : decGo zs N (600 - (c + 1)) (c + 1) (enterS s x.k x.n x.d) a3 (xs ++ [x]) = decE zs N := by rw [← HG.out, H6.out]; exact (decGo_next HCB.out hie).symm
        have HNX := Lib.hid hnext
        have HKEY := Lib.hid qkey
        have Q5 := Lib.hid q5
        have Q6 := Lib.hid q6
        clear hnext hie hck qkey q5 q6 q7
        go_wp2_with (first
          | (go_at_call 41; refine (complete_any _ HV.out).mono ?_; rintro e w' ⟨rfl, rfl⟩; rw [HCB.out])
          | (go_at_call 44; refine HI.out.mono ?_; rintro e w1 ⟨rfl, hr1, hs1⟩; have HR1 := Lib.hid hr1; have HS1 := Lib.hid (hs1 rfl); clear hr1 hs1)
          | fail)
        have hb2 : Below w1.heap.size w1 (w1.alloc (.cells #[.int .i64 x.k, .int .u64 x.n, .string x.d] 58)) := (Below.refl _ w1).alloc (Nat.le_refl _) _
        have hs2 := HS1.out.keep hb2
        obtain ⟨v2, hv2⟩ := hs2.nest
        have hbx2 := Box.new w1 x.k x.n x.d
        have ho2 := (own_rf HO.out HR1.out (Nat.lt_succ_self _)).alloc (.cells #[.int .i64 x.k, .int .u64 x.n, .string x.d] 58)
        have hsz1 := HR1.out.size
        have hsz0 := HBW.out.size
        refine (enter_any x.k x.n x.d _ hv2 hn0 Q6.out Q5.out (by omega) (by omega) HT.out HKEY.out).mono ?_
        rintro e w3 ⟨rfl, hnf, hv3⟩
        have hs3 := hs2.nf hnf hv3
        have hbx3 := hbx2.nf hnf (by omega)
        have ho3 := own_nf ho2 hnf (Nat.lt_succ_self _) (by decide)
        have htop := fun v3 (h : nestAt w3 (w.heap.size + 1) w.heap.size (c + 1) (enterS s x.k x.n x.d) v3) => top_pos (s := pushed (lessS (keyS s x.k x.n x.d)) x.k x.n) h
        obtain ⟨v3, hv3⟩ := hv3
        have htp := htop v3 hv3
        have hb03 : Below w.heap.size w w3 := ((HBW.out.trans (HR1.out.below (Nat.le_of_lt hpw))).trans (hb2.mono (by omega))).trans hnf.below
        have HS3 := Lib.hid hs3
        have HO3 := Lib.hid ho3
        have HTP := Lib.hid htp
        have HB3 := Lib.hid hb03
        have hsz3 := hb03.size
        have hlt3 : w.heap.size + 1 ≤ w3.heap.size := by have := HS3.out.plt; omega
        obtain ⟨z0, z1, z2, _, _, _⟩ := hbx3.cells
        clear hb2 hs2 hv2 hbx2 ho2 hnf hs3 hbx3 ho3 htop hv3 htp hb03
        have hit : ItemsAt (w3.alloc (.cells #[.int .i64 x.k, .int .u64 x.n, .string x.d] 58)) (w3.heap.size + 1) (.slice (some ⟨w3.heap.size, 0, none⟩) 1 1) [x] := itemsAt_one (by omega) (heap_new w3 _) hn0 (by unfold maxLen; omega)
        have HIT := Lib.hid hit
        clear hit
        have hxlen := HXL.out
        go_wp2_with (first
          | (at_builtin; refine app_items2 rfl _ _ rfl (w.heap.size + 1) _ c xs [x] (w3.heap.size + 1) w3.heap.size 0 1 (HO3.out.alloc _) rfl HIT.out rfl (by simp) (by omega) (by simp) (by simp; omega) ?_; intro v4 w4 ho4 hb4 hk4)
          | fail)
        have hb34 : Below w3.heap.size w3 (w3.alloc (.cells #[.int .i64 x.k, .int .u64 x.n, .string x.d] 58)) := (Below.refl _ w3).alloc (Nat.le_refl _) _
        have hs4 := (HS3.out.keep hb34).kept hk4 hb4
        obtain ⟨A4, cap4, hv4⟩ := own_form ho4
        subst hv4
        have hxs : ∀ y ∈ xs ++ [x], 0 ≤ y.n ∧ y.d.size ≤ 1024 := by
          intro y hy
          rcases List.mem_append.1 hy with h | h
          · exact HX.out y h
          · simp at h; subst h; exact ⟨hn0, qd⟩
        go_roundw
        case rel => exact ⟨c + 1, enterS s x.k x.n x.d, a3, xs ++ [x], by simp [hxlen], by omega, ⟨A4, cap4, rfl⟩, Lib.hid ho4, Lib.hid hs4, (HB3.out.trans (hb34.mono (by omega))).trans (hb4.mono (by omega)), HTP, HNX, Lib.hid hxs⟩
        case measure => show 600 - (c + 1) < 600 - c; omega
      · have hfin : decE zs N = (er, [], 0) := by rw [← HG.out, H6.out]; exact decGo_bad HCB.out hie he
        have hne : (er != 0) = true := by simpa using he
        have HF := Lib.hid hfin
        have HIE := Lib.hid hie
        clear hfin hie
        go_wp2_with (first
          | (go_at_call 41; refine (complete_any _ HV.out).mono ?_; rintro e w' ⟨rfl, rfl⟩; rw [HCB.out])
          | (go_at_call 44; refine HI.out.mono ?_; rintro e w1 ⟨rfl, hr1, _⟩; have HR1 := Lib.hid hr1; clear hr1))
        go_ret3
        exact ⟨.slice none 0 0, by rw [HF.out]; rfl, by rw [HF.out]; exact World.ownsRow_nil _ _ _ _, (HBW.out.trans (HR1.out.below (Nat.le_of_lt hpw))).alloc (by have := HBW.out.size; have := HR1.out.size; omega) _, fun _ => rfl, by rw [HF.out]; exact fun x h => absurd h (by simp), by rw [HF.out]; exact Nat.zero_le _⟩
end Go.Proofs.YtepinmeidjlmmaaDoor
