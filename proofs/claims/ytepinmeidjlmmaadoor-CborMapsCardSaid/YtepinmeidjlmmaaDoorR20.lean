/- Joined: MB, MC. -/
import Derived.Test.YtepinmeidjlmmaaDoorR19
import Derived.Test.YtepinmeidjlmmaaDoorR16
/- The reference's Map, walked. -/
namespace Go.Proofs.YtepinmeidjlmmaaDoor
open Go.RowKit
set_option maxRecDepth 100000

theorem nodup_of {K : Nat → Int} {n : Nat} (h : ∀ a b, a < b → b < n → K a ≠ K b) : ((List.range n).map K).Nodup := by
  unfold List.Nodup
  rw [List.pairwise_map, List.pairwise_iff_getElem]
  intro i j hi hj hij
  simp only [List.getElem_range]
  simp at hj
  exact h i j hij hj
theorem not_nodup {K : Nat → Int} {n a b : Nat} (hab : a < b) (hb : b < n) (he : K a = K b) : ¬ ((List.range n).map K).Nodup := by
  intro h
  unfold List.Nodup at h
  rw [List.pairwise_map, List.pairwise_iff_getElem] at h
  have := h a b (by simp; omega) (by simp; omega) hab
  simp only [List.getElem_range] at this
  exact this he
theorem make_bools (n : Nat) (hn : n ≤ 12) (w : World) : (Instr.makeSlice 93 (.int .i64 n) (.int .i64 n)).run Tryd.prog w = .ok (.slice (some ⟨w.heap.size, 0, none⟩) n n) (w.alloc (.cells (List.replicate n (.bool false)).toArray 4)) := by
  have h : n = 0 ∨ n = 1 ∨ n = 2 ∨ n = 3 ∨ n = 4 ∨ n = 5 ∨ n = 6 ∨ n = 7 ∨ n = 8 ∨ n = 9 ∨ n = 10 ∨ n = 11 ∨ n = 12 := by omega
  rcases h with rfl | rfl | rfl | rfl | rfl | rfl | rfl | rfl | rfl | rfl | rfl | rfl | rfl
  all_goals (refine Eq.trans ?_ rfl; kernel_rfl)
/-- which are done -/
def Done (w : World) (g n : Nat) (D : List Nat) : Prop := w.heap[g]? = some (.cells ((List.range n).map fun i => Value.bool (D.contains i)).toArray 4 (0, 0))
theorem Done.at_ {w : World} {g n : Nat} {D : List Nat} (h : Done w g n D) {i : Nat} (hi : i < n) : w.cell? ⟨g, i, none⟩ = some (.bool (D.contains i)) ∧ w.frozen? ⟨g, i, none⟩ = false := by
  unfold Done at h
  refine ⟨?_, ?_⟩
  · simp only [World.cell?, h]
    simp [hi]
  · simp [World.frozen?, h]
theorem Done.set {w : World} {g n : Nat} {D : List Nat} (h : Done w g n D) {b : Nat} : Done (w.setCell ⟨g, b, none⟩ (.bool true)) g n (D ++ [b]) := by
  unfold Done at h ⊢
  rw [heap_setCell_same w g b _ 4 (.bool true) h]
  refine congrArg some (congrArg (fun c => Obj.cells c 4 (0, 0)) ?_)
  apply Array.ext'
  rw [Array.toList_setIfInBounds]
  refine List.ext_getElem (by simp) (fun i h1 h2 => ?_)
  rw [List.getElem_set]
  by_cases hi : b = i
  · subst hi; simp
  · rw [if_neg hi]
    simp [show ¬ i = b from fun e => hi e.symm]
theorem done_new (w : World) (n : Nat) : Done (w.alloc (.cells (Array.replicate n (.bool false)) 4)) w.heap.size n [] := by
  unfold Done
  rw [heap_new]
  refine congrArg some (congrArg (fun c => Obj.cells c 4 (0, 0)) ?_)
  apply Array.ext'
  refine List.ext_getElem (by simp) (fun i h1 h2 => ?_)
  simp

theorem Done.below {w w' : World} {g n : Nat} {D : List Nat} (h : Done w g n D) (hb : Below w.heap.size w w') : Done w' g n D := (hb.block g (lt_of_heap h)).trans h
/-- append(a, s...) of items, as one step of a region: blocks of other types stay -/
theorem step_itemsK {ops : Array Oper} {o : Oper} {a : Act} {W : World} {K : Act → World → Prop} {Q : Exit → Act → World → Prop} {E : Prop} (hgd : o.guard = none) (s x : Operand)
    (ho : o.op = .call { callee := .builtin .append, args := #[s, x], argTypes := #[22, 22] })
    (base : Nat) (v : Value) (n : Nat) (xs : List It) (l : List It) (B b off cap : Nat) (hown : W.ownsRow base 58 3 v n (itCells xs)) (hs : a.eval s = v)
    (hI : ItemsAt W B (.slice (some ⟨b, off, none⟩) l.length cap) l) (hx : a.eval x = .slice (some ⟨b, off, none⟩) l.length cap) (hne : l ≠ []) (hn : n ≤ 1000000) (hl : l.length ≤ 1000000) (hb : base ≤ W.heap.size)
    (h : ∀ v' w', w'.ownsRow base 58 3 v' (n + l.length) (itCells (xs ++ l)) → Below base W w' → (∀ (b : Nat) (cs : Array Value) (t : TypeId), t ≠ 58 → W.heap[b]? = some (.cells cs t (0, 0)) → w'.heap[b]? = W.heap[b]?) → W.heap.size ≤ w'.heap.size → K (a.put o.dst v') w') :
    if Region.wanted o (yielded ops a.tmps) = true then Oper.wp Tryd.prog o a W K Q else E := by
  have hw : Region.wanted o (yielded ops a.tmps) = true := by simp [Region.wanted, hgd]
  rw [if_pos hw]
  obtain ⟨i0, hi, hz0, hz1, hz2⟩ := info_parts info58
  refine wp_append_own W s x 22 ho base 58 i0 _ 3 32 Tryd.underlying22 hi hz0 hz1 hz2 rfl (by decide) v n _ hs hown ⟨b, off, none⟩ l.length cap (itCells l) hx (itCells_len l) (itemsAt_src hI hne).2 (itCells_one l) (by unfold maxLen; omega) (by omega) hb ?_
  intro v' w' h1 h2 _
  rw [← itCells_app] at h1
  refine h v' w' h1 (below_of_grown hown hb h2) (fun b cs t ht hh => h2.block b (lt_of_heap hh) (fun e => ?_)) h2.size
  rcases hown.2 with ⟨hv, _⟩ | ⟨g, cap, cur, hv, _, hg, _⟩
  · rw [hv] at e; simp [Value.ownBlock] at e
  · rw [hv] at e
    have e2 : b = g := by simpa [Value.ownBlock] using e
    subst e2
    rw [hh] at hg
    simp only [Option.some.injEq, Obj.cells.injEq] at hg
    exact ht hg.2.1

theorem own_ne {w : World} {base n m gd : Nat} {v : Value} {xs : List Value} {D : List Nat} (ho : w.ownsRow base 58 3 v n xs) (hd : Done w gd m D) : ∀ g, v.ownBlock = some g → g ≠ gd := by
  intro g hg e
  subst e
  rcases ho.2 with ⟨hv, _⟩ | ⟨g2, cap, cur, hv, _, hh, _⟩
  · rw [hv] at hg; simp [Value.ownBlock] at hg
  · rw [hv] at hg
    have e2 : g2 = g := by simpa [Value.ownBlock] using hg
    subst e2
    unfold Done at hd
    rw [hd] at hh
    simp at hh
theorem ks_step {W W' : World} {B : Nat} {a1 a2 : Addr} {u1 u2 : Value} (h : W.cell? a1 = some u1 ∧ W.cell? a2 = some u2) (hb : Below B W W') (h1 : a1.block < B) (h2 : a2.block < B) : W'.cell? a1 = some u1 ∧ W'.cell? a2 = some u2 := ⟨(hb.cell h1).trans h.1, (hb.cell h2).trans h.2⟩

/-- choosing the next key -/
structure Pick (K : Nat → Int) (n : Nat) (D R : List Nat) : Prop where
  perm : (D ++ R).Perm (List.range n)
  strict : Strict K D
  low : ∀ d ∈ D, ∀ r ∈ R, K d < K r
theorem Pick.out {K : Nat → Int} {n : Nat} {D R : List Nat} (h : Pick K n D R) : ∀ r ∈ R, r < n ∧ r ∉ D := by
  intro r hr
  have hnd : (D ++ R).Nodup := h.perm.nodup_iff.2 List.nodup_range
  refine ⟨List.mem_range.1 (h.perm.mem_iff.1 (List.mem_append.2 (.inr hr))), fun hd => ?_⟩
  exact (List.nodup_append.1 hnd).2.2 r hd r hr rfl
theorem Pick.in_ {K : Nat → Int} {n : Nat} {D R : List Nat} (h : Pick K n D R) {i : Nat} (hi : i < n) (hd : i ∉ D) : i ∈ R := by
  rcases List.mem_append.1 (h.perm.mem_iff.2 (List.mem_range.2 hi)) with h1 | h1
  · exact absurd h1 hd
  · exact h1
theorem Pick.next {K : Nat → Int} {n : Nat} {D R : List Nat} (h : Pick K n D R) (hinj : ∀ a b, a < b → b < n → K a ≠ K b) {b : Nat} (hb : b < n) (hd : b ∉ D) (hmin : ∀ i, i < n → i ∉ D → K b ≤ K i) : Pick K n (D ++ [b]) (R.erase b) := by
  have hbR := h.in_ hb hd
  have hnd : (D ++ R).Nodup := h.perm.nodup_iff.2 List.nodup_range
  have hR : R.Nodup := (List.nodup_append.1 hnd).2.1
  refine ⟨?_, ?_, ?_⟩
  · refine List.Perm.trans ?_ h.perm
    rw [List.append_assoc]
    exact List.Perm.append_left D (List.perm_cons_erase hbR).symm
  · unfold Strict
    rw [List.pairwise_append]
    exact ⟨h.strict, by simp, fun a ha c hc => by rw [List.mem_singleton.1 hc]; exact h.low a ha b hbR⟩
  · intro d hd2 r hr
    have hrR := List.mem_of_mem_erase hr
    obtain ⟨hrn, hrd⟩ := h.out r hrR
    rcases List.mem_append.1 hd2 with h1 | h1
    · exact h.low d h1 r hrR
    · rw [List.mem_singleton.1 h1]
      have hne : r ≠ b := fun e => by subst e; exact hR.not_mem_erase hr
      have h2 := hmin r hrn hrd
      have h3 : K b ≠ K r := by
        rcases Nat.lt_or_gt_of_ne hne with h4 | h4
        · exact fun e => hinj r b h4 hb e.symm
        · exact hinj b r h4 hrn
      omega

set_option maxHeartbeats 4000000 in
theorem mapR_any (A : Option Addr) (n kcap : Nat) (V : Value) (ls : List (List It)) (K : Nat → Int) (w : World) (hk : ∀ i, i < n → ∃ ka, A = some ka ∧ w.cell? (ka.add i) = some (.int .u64 (K i))) (hV : VS w w.heap.size V ls) (ht : Tabs w)
    (h12 : n ≤ 12) (hlm : ls.length ≤ 13) (hK : ∀ i, 0 ≤ K i) (hM : ∀ l ∈ ls, l.length ≤ 1000) :
    Calls Tryd.prog 31 #[.slice A n kcap, V] w (MapP K n ls w) := by
  obtain ⟨A2, cap2, VA, VC, rfl, hvals⟩ := vals_fun hV
  by_cases hnm : n = ls.length
  · subst hnm
    have hmk := make_bools ls.length h12
    have HK := Lib.hid hk
    have HV := Lib.hid hV
    have HT := Lib.hid ht
    have HVS := Lib.hid hvals
    have HM := Lib.hid hM
    have HKK := Lib.hid hK
    clear hk hV ht hvals hM hK
    go_enter Tryd.func31, Tryd.ntmps31
    go_wp2_with fail
    go_loopw [6] (fun iv wr => ∃ i : Nat, i ≤ 12 ∧ iv = .int .i64 i ∧ Hid (∀ a b, a < b → b < i → b < ls.length → K a ≠ K b) ∧ Below w.heap.size w wr) (fun iv _ => 13 - (intOf iv).toNat)
    case atStart => exact ⟨0, by omega, rfl, Lib.hid (fun a b h1 h2 => absurd h2 (by omega)), Below.refl _ _⟩
    case round =>
      obtain ⟨i, hi12, rfl, HNE, hb⟩ := hrel
      have HB := Lib.hid hb
      have hs1 := hb.size
      clear hb
      by_cases hlt : i < ls.length
      · have hiI : (i : Int) < (ls.length : Int) := by omega
        have hi0 : (0 : Int) ≤ (i : Int) := by omega
        go_wp2_with fail
        go_loopw [7] (fun kv wr => ∃ k : Nat, k ≤ i ∧ kv = .int .i64 k ∧ Hid (∀ a, a < k → K a ≠ K i) ∧ Below w.heap.size w wr) (fun kv _ => i - (intOf kv).toNat)
        case atStart => exact ⟨0, by omega, rfl, Lib.hid (fun a h1 => absurd h1 (by omega)), HB.out⟩
        case round =>
          obtain ⟨k, hki, rfl, HNK, hb⟩ := hrel
          have HB2 := Lib.hid hb
          clear hb
          by_cases hlt2 : k < i
          · obtain ⟨ka, rfl, hc1⟩ := HK.out k (by omega)
            obtain ⟨ka2, hka, hc2⟩ := HK.out i (by omega)
            cases hka
            have k1 := (HB2.out.cell (cell_in hc1)).trans hc1
            have k2 := (HB2.out.cell (cell_in hc2)).trans hc2
            have hkI : (k : Int) < (ls.length : Int) := by omega
            have hki2 : (k : Int) < (i : Int) := by omega
            have hk0 : (0 : Int) ≤ (k : Int) := by omega
            generalize hkx : K k = kx at *
            generalize hky : K i = ky at *
            clear hc1 hc2
            by_cases he : kx = ky
            · have heb : (kx == ky) = true := by simp [he]
              have hdup := Lib.hid (not_nodup (K := K) hlt2 hlt (by rw [hkx, hky, he]))
              clear he hkx hky
              go_wp2_with fail
              go_quiet (fail)
              go_wp2
              go_ret2
              exact ⟨(10, []), .inr (.inl ⟨rfl, hdup.out, rfl⟩), _, rfl, itemsAt_nil _ _, nil_cap, HB2.out.trans (below_dn _ _ _)⟩
            · have heb : (kx == ky) = false := by simp [he]
              have HNK2 : Hid (∀ a, a < k + 1 → K a ≠ K i) := Lib.hid (fun a ha => by
                by_cases hak : a = k
                · subst hak; rw [hkx, hky]; exact he
                · rw [hky]; exact HNK.out a (by omega))
              clear he hkx
              go_wp2_with fail
              go_quiet (fail)
              go_wp2_with fail
              go_roundw
              case rel => exact ⟨k + 1, by omega, by go_num, by rw [hky] at HNK2; exact HNK2, HB2.out.trans (below_dn _ _ _)⟩
              case measure => simp [intOf]; omega
          · have hkI : ¬ (k : Int) < (i : Int) := by omega
            go_wp2_with fail
            refine ⟨⟨i + 1, by omega, by go_num, Lib.hid (fun a b h1 h2 h3 => ?_), HB2.out⟩, by simp [intOf]; omega⟩
            by_cases hbi : b = i
            · subst hbi; exact HNK.out a (by omega)
            · exact HNE.out a b h1 (by omega) h3
      · have hiI : ¬ (i : Int) < (ls.length : Int) := by omega
        have hnd := Lib.hid (nodup_of (K := K) (n := ls.length) (fun a b h1 h2 => HNE.out a b h1 (by omega) h2))
        go_wp2_with fail
        go_loopw [8] (fun iv wq => ∃ j : Nat, j ≤ ls.length ∧ iv = .int .i64 j ∧ Below w.heap.size w wq ∧ valAllE (ls.drop j) = valAllE ls) (fun iv _ => ls.length - (intOf iv).toNat)
        case atStart => exact ⟨0, by omega, rfl, HB.out, rfl⟩
        case round =>
          obtain ⟨j, hj, rfl, hb, hgo⟩ := hrel
          have HB2 := Lib.hid hb
          have HGO := Lib.hid hgo
          have hsz := hb.size
          clear hb hgo
          by_cases hlt : j < ls.length
          · obtain ⟨⟨cb, rfl, hc⟩, hI⟩ := HVS.out j hlt
            have q := (HB2.out.cell (cell_in hc)).trans hc
            have hlI : (j : Int) < (ls.length : Int) := by omega
            have hl0 : (0 : Int) ≤ (j : Int) := by omega
            have hC := validP_any (ls.getD j []) _ wr (itemsAt_mono (hI.below HB2.out) hsz) (HT.out.later HB2.out)
            have HC := Lib.hid hC
            have hdr := drop_at' hlt
            have hgd : ls.getD j [] = ls[j] := by simp [List.getD, hlt]
            rw [← hgd] at hdr
            have HDR := Lib.hid hdr
            clear hC hI hc hdr hgd
            generalize ls.getD j [] = lj at *
            by_cases hz : validE lj = 0
            · have hzb : (validE lj != 0) = false := by simp [hz]
              have HZ := Lib.hid hz
              clear hz
              go_wp2_with (go_at_call 19; refine HC.out.mono ?_; rintro e w1 ⟨rfl, hb1⟩)
              go_roundw
              case rel => exact ⟨j + 1, by omega, by go_num, HB2.out.trans (hb1.mono hsz), by rw [← HGO.out, HDR.out, valAll_yes HZ.out]⟩
              case measure => simp [intOf]; omega
            · have hzb : (validE lj != 0) = true := by simp [hz]
              have hv : valAllE ls = validE lj := by rw [← HGO.out, HDR.out, valAll_no hz]
              have hvn := Lib.hid (show valAllE ls ≠ 0 from by rw [hv]; exact hz)
              have HVV := Lib.hid hv
              clear hz hv
              go_wp2_with (go_at_call 19; refine HC.out.mono ?_; rintro e w1 ⟨rfl, hb1⟩)
              go_ret2
              exact ⟨(valAllE ls, []), .inr (.inr (.inl ⟨rfl, hnd.out, hvn.out, rfl⟩)), .slice none 0 0, by show _ = Ending.returned (.tuple #[.slice none 0 0, .int .i64 (valAllE ls)]); rw [HVV.out]; rfl, itemsAt_nil _ _, nil_cap, HB2.out.trans (hb1.mono hsz)⟩
          · obtain rfl : j = ls.length := by omega
            have hv : valAllE ls = 0 := by rw [← HGO.out, List.drop_length]; rfl
            have HZ := Lib.hid hv
            clear hv
            have HINJ := Lib.hid (fun a b (h1 : a < b) (h2 : b < ls.length) => HNE.out a b h1 (by omega) h2)
            obtain ⟨gd, hgd⟩ : ∃ gd, wr.heap.size + 1 = gd := ⟨_, rfl⟩
            have hgdl : w.heap.size ≤ gd := by omega
            go_wp2_with fail
            go_loopw [10, 64] (fun ov tv wq => ∃ (t : Nat) (D R : List Nat), t ≤ ls.length ∧ tv = .int .i64 t ∧ D.length = t ∧ Hid (Pick K ls.length D R) ∧ Hid (wq.ownsRow w.heap.size 58 3 ov (1 + total (content K ls D)) (itCells (⟨6, ls.length, ⟨#[]⟩⟩ :: (content K ls D).flatten))) ∧ Hid (Done wq gd ls.length D) ∧ Below w.heap.size w wq) (fun _ tv _ => ls.length - (intOf tv).toNat)
            case atStart =>
              refine ⟨0, [], List.range ls.length, by omega, rfl, rfl, Lib.hid ⟨List.Perm.refl _, List.Pairwise.nil, fun d hd => by cases hd⟩, Lib.hid ?_, Lib.hid ?_, ?_⟩
              · exact (own_lit wr 6 ls.length ⟨#[]⟩ w.heap.size hsz).alloc _
              · have := done_new (wr.alloc (.cells #[.int .i64 6, .int .u64 ls.length, .string ⟨#[]⟩] 58)) ls.length
                rw [← hgd]
                simpa using this
              · exact HB2.out.trans (((Below.refl _ wr).alloc hsz _).alloc (by simp; omega) _)
            case round =>
              obtain ⟨t, D, R, htn, rfl, hDl, HPK, HOW, HDN, hb⟩ := hrel
              have HBC := Lib.hid hb
              have hsc := hb.size
              obtain ⟨AO, cO, rfl⟩ := own_form HOW.out
              clear hb
              by_cases hlt : t < ls.length
              · have htI : (t : Int) < (ls.length : Int) := by omega
                go_wp2_with fail
                go_loopw [12, 13] (fun bv kv wq => ∃ k : Nat, k ≤ ls.length ∧ kv = .int .i64 k ∧ ((bv = .int .i64 (-1) ∧ Hid (∀ i, i < k → i ∈ D)) ∨ ∃ b : Nat, bv = .int .i64 b ∧ b < k ∧ Hid (b ∉ D ∧ ∀ i, i < k → i ∉ D → K b ≤ K i)) ∧ Below wr.heap.size wr wq) (fun _ kv _ => ls.length - (intOf kv).toNat)
                case atStart => exact ⟨0, by omega, rfl, .inl ⟨rfl, Lib.hid (fun i hi => absurd hi (by omega))⟩, Below.refl _ _⟩
                case round =>
                  obtain ⟨k, hkn, rfl, hbest, hb⟩ := hrel
                  have HB3 := Lib.hid hb
                  have HBW := Lib.hid (HBC.out.trans (hb.mono hsc))
                  have hs5 := hb.size
                  clear hb
                  by_cases hk : k < ls.length
                  · obtain ⟨dc, _⟩ := (HDN.out.below HB3.out).at_ hk
                    have hkI : (k : Int) < (ls.length : Int) := by omega
                    have hk0 : (0 : Int) ≤ (k : Int) := by omega
                    obtain ⟨ka, rfl, hc1⟩ := HK.out k hk
                    have k1 := (HBW.out.cell (cell_in hc1)).trans hc1
                    clear hc1
                    cases hdk : D.contains k with
                    | true =>
                      rw [hdk] at dc
                      have hkD : k ∈ D := by simpa using hdk
                      have HKD := Lib.hid hkD
                      clear hdk hkD
                      rcases hbest with ⟨rfl, H1⟩ | ⟨b, rfl, hbk, H2⟩
                      · go_wp2_with fail
                        go_quiet (fail)
                        go_wp2_with fail
                        go_roundw
                        case rel => exact ⟨k + 1, by omega, by go_num, .inl ⟨rfl, Lib.hid (fun i hi => by
                          by_cases hik : i = k
                          · subst hik; exact HKD.out
                          · exact H1.out i (by omega))⟩, HB3.out.trans (below_dn _ _ _)⟩
                        case measure => simp [intOf]; omega
                      · go_wp2_with fail
                        go_quiet (fail)
                        go_wp2_with fail
                        go_roundw
                        case rel => exact ⟨k + 1, by omega, by go_num, .inr ⟨b, rfl, by omega, Lib.hid ⟨H2.out.1, fun i hi hd => by
                          by_cases hik : i = k
                          · subst hik; exact absurd HKD.out hd
                          · exact H2.out.2 i (by omega) hd⟩⟩, HB3.out.trans (below_dn _ _ _)⟩
                        case measure => simp [intOf]; omega
                    | false =>
                      rw [hdk] at dc
                      have hkD : k ∉ D := by simpa using hdk
                      have HKD := Lib.hid hkD
                      clear hdk hkD
                      rcases hbest with ⟨rfl, H1⟩ | ⟨b, rfl, hbk, H2⟩
                      · go_wp2_with fail
                        go_quiet (fail)
                        go_wp2_with fail
                        go_roundw
                        case rel => exact ⟨k + 1, by omega, by go_num, .inr ⟨k, rfl, by omega, Lib.hid ⟨HKD.out, fun i hi hd => by
                          by_cases hik : i = k
                          · subst hik; exact Int.le_refl _
                          · exact absurd (H1.out i (by omega)) hd⟩⟩, HB3.out.trans (below_dn _ _ _)⟩
                        case measure => simp [intOf]; omega
                      · obtain ⟨ka2, hka, hc2⟩ := HK.out b (by omega)
                        cases hka
                        have k2 := (HBW.out.cell (cell_in hc2)).trans hc2
                        have hb0 : (0 : Int) ≤ (b : Int) := by omega
                        have hbI : (b : Int) < (ls.length : Int) := by omega
                        have hbB : decide ((b : Int) < 0) = false := decide_eq_false (by omega)
                        clear hc2
                        generalize hkx : K k = kx at *
                        generalize hky : K b = ky at *
                        by_cases hc : kx < ky
                        · have hcB : decide (kx < ky) = true := decide_eq_true hc
                          go_wp2_with fail
                          go_quiet (fail)
                          go_wp2_with fail
                          go_roundw
                          case rel => exact ⟨k + 1, by omega, by go_num, .inr ⟨k, rfl, by omega, Lib.hid ⟨HKD.out, fun i hi hd => by
                            by_cases hik : i = k
                            · subst hik; rw [hkx]; exact Int.le_refl _
                            · have := H2.out.2 i (by omega) hd; rw [hkx]; omega⟩⟩, HB3.out.trans (below_dn _ _ _)⟩
                          case measure => simp [intOf]; omega
                        · have hcB : decide (kx < ky) = false := decide_eq_false hc
                          go_wp2_with fail
                          go_quiet (fail)
                          go_wp2_with fail
                          go_roundw
                          case rel => exact ⟨k + 1, by omega, by go_num, .inr ⟨b, rfl, by omega, Lib.hid ⟨H2.out.1, fun i hi hd => by
                            by_cases hik : i = k
                            · subst hik; rw [hkx, hky]; omega
                            · have := H2.out.2 i (by omega) hd; rw [hky]; exact this⟩⟩, HB3.out.trans (below_dn _ _ _)⟩
                          case measure => simp [intOf]; omega
                  · obtain rfl : k = ls.length := by omega
                    have hRl : 0 < R.length := by
                      have := HPK.out.perm.length_eq
                      rw [List.length_append, List.length_range] at this
                      omega
                    rcases hbest with ⟨rfl, H1⟩ | ⟨b, rfl, hbk, H2⟩
                    · exfalso
                      obtain ⟨h1, h2⟩ := HPK.out.out _ (List.getElem_mem hRl)
                      exact h2 (H1.out _ h1)
                    · obtain ⟨ka, rfl, hc1⟩ := HK.out b hbk
                      obtain ⟨⟨cb, rfl, hvc⟩, hIv⟩ := HVS.out b hbk
                      have hl2e : ls.getD b [] ≠ [] := by
                        simp only [List.getD, List.getElem?_eq_getElem hbk, Option.getD_some]
                        exact (valAll_ne HZ.out _ (List.getElem_mem hbk)).1
                      have hl2s : (ls.getD b []).length ≤ 1000 := by
                        simp only [List.getD, List.getElem?_eq_getElem hbk, Option.getD_some]
                        exact HM.out _ (List.getElem_mem hbk)
                      obtain ⟨dc, df⟩ := (HDN.out.below HB3.out).at_ hbk
                      have HPN := Lib.hid (HPK.out.next HINJ.out hbk H2.out.1 H2.out.2)
                      have hMb : 1 + total (content K ls D) ≤ 100000 := by
                        have h3 := content_small (K := K) HM.out D
                        have h4 : D.length * (1000 + 1) ≤ 12 * 1001 := Nat.mul_le_mul (by omega) (by omega)
                        omega
                      have HCS := Lib.hid (content_snoc K ls D b)
                      have hkn := HKK.out b
                      have hc1l := cell_in hc1
                      have hvcl := cell_in hvc
                      generalize ls.getD b [] = l2 at *
                      obtain ⟨b2, off, c4, hveq, hb2l⟩ : ∃ b2 off c4, Value.slice (VA b) l2.length (VC b) = .slice (some ⟨b2, off, none⟩) l2.length c4 ∧ b2 < w.heap.size := by
                        rcases hIv.form with ⟨_, h0⟩ | ⟨b2, off, c4, hv, hl4, _⟩
                        · exact absurd h0 hl2e
                        · exact ⟨b2, off, c4, hv, hl4⟩
                      rw [hveq] at hIv hvc
                      have HIV := Lib.hid hIv
                      have hb0 : (0 : Int) ≤ (b : Int) := by omega
                      have hbI : (b : Int) < (ls.length : Int) := by omega
                      have HC1 := Lib.hid hc1
                      have HVC := Lib.hid hvc
                      have HL2 := Lib.hid hl2e
                      clear hc1 hvc hIv hl2e hveq
                      go_upto_region 28 with fail
                      refine gen_world (fun W => W.ownsRow w.heap.size 58 3 (.slice AO (1 + total (content K ls D)) cO) (1 + total (content K ls D)) (itCells (⟨6, ls.length, ⟨#[]⟩⟩ :: (content K ls D).flatten)) ∧ Done W gd ls.length (D ++ [b]) ∧ Below w.heap.size w W) ⟨?_, (HDN.out.below HB3.out).set, HBW.out.trans (below_far _ hgdl _ _)⟩ ?_
                      · have ho2 := own_below HOW.out HB3.out
                        exact own_keep ho2 (fun g hg => heap_setCell_other _ _ g _ (own_ne ho2 (HDN.out.below HB3.out) g hg))
                      clear dc df
                      rintro W ⟨hO, hD, hB⟩
                      have HO := Lib.hid hO
                      have HD := Lib.hid hD
                      have HBB := Lib.hid hB
                      have hsW := hB.size
                      have KV := ks_step (B := w.heap.size) ⟨HC1.out, HVC.out⟩ hB hc1l hvcl
                      have k0 := KV.1
                      have v0 := KV.2
                      have HKV := Lib.hid KV
                      clear hO hD hB KV
                      go_region_held3 (fun W' => W'.cell? (ka.add b) = some (.int .u64 (K b)) ∧ W'.cell? ⟨cb, b, none⟩ = some (.slice (some ⟨b2, off, none⟩) l2.length c4))
                        (first | (exact HKV.out) | (exact ks_step (by assumption) hb6 hc1l hvcl) | (exact ks_step (by assumption) hb5 hc1l hvcl) | (exact ks_step (B := w.heap.size) HKV.out ((Below.refl _ W).alloc hsW _) hc1l hvcl) | (exact ks_step (B := w.heap.size) HKV.out ((Below.refl _ W).alloc hsW _).drew hc1l hvcl) | (exact ks_step (B := w.heap.size) HKV.out (Below.refl _ W).drew hc1l hvcl))
                        (first | (refine step_itemsK rfl (.tmp 96) (.tmp 102) rfl w.heap.size (.slice AO (1 + total (content K ls D)) cO) (1 + total (content K ls D)) (⟨6, ls.length, ⟨#[]⟩⟩ :: (content K ls D).flatten) [⟨1, K b, ⟨#[]⟩⟩] (W.heap.size + 1) W.heap.size 0 1 (by exact HO.out.alloc _) rfl (by exact itemsAt_one (Nat.lt_succ_self _) (heap_new W _) hkn (Nat.zero_le _)) rfl (by simp) (by omega) (by simp) (by simp; omega) ?_; intro v5 w5 ho5 hb5 hk5 hs5) | (refine step_itemsK rfl (.tmp 103) (.tmp 107) rfl w.heap.size v5 (1 + total (content K ls D) + 1) (⟨6, ls.length, ⟨#[]⟩⟩ :: (content K ls D).flatten ++ [⟨1, K b, ⟨#[]⟩⟩]) l2 w.heap.size b2 off c4 (by exact ho5) rfl (by exact HIV.out.below (HBB.out.trans (((Below.refl _ W).alloc hsW _).drew.trans hb5))) rfl HL2.out (by omega) (by omega) (by have h9 := hs5; simp at h9; omega) ?_; intro v6 w6 ho6 hb6 hk6 hs6))
                      go_split_ands
                      have hO7 : w6.ownsRow w.heap.size 58 3 v6 (1 + total (content K ls (D ++ [b]))) (itCells (⟨6, ls.length, ⟨#[]⟩⟩ :: (content K ls (D ++ [b])).flatten)) := by
                        rw [HCS.out]
                        have e1 : 1 + total (content K ls D ++ [[⟨1, K b, ⟨#[]⟩⟩], l2]) = 1 + total (content K ls D) + 1 + l2.length := by simp [total]; omega
                        have e2 : (⟨6, ls.length, ⟨#[]⟩⟩ :: (content K ls D ++ [[⟨1, K b, ⟨#[]⟩⟩], l2]).flatten : List It) = (⟨6, ls.length, ⟨#[]⟩⟩ :: (content K ls D).flatten ++ [⟨1, K b, ⟨#[]⟩⟩]) ++ l2 := by simp
                        rw [e1, e2]
                        exact ho6
                      have hD4 := HD.out.below ((Below.refl _ W).alloc (Nat.le_refl _) (.cells #[.int .i64 1, .int .u64 (K b), .string ⟨#[]⟩] 58)).drew
                      have hD5 : Done w5 gd ls.length (D ++ [b]) := (hk5 gd _ 4 (by decide) hD4).trans hD4
                      have hD6 : Done w6 gd ls.length (D ++ [b]) := (hk6 gd _ 4 (by decide) hD5).trans hD5
                      have HO7 := Lib.hid hO7
                      have HD6 := Lib.hid hD6
                      have HB7 := Lib.hid (HBB.out.trans ((((Below.refl _ W).alloc hsW (.cells #[.int .i64 1, .int .u64 (K b), .string ⟨#[]⟩] 58)).drew.trans hb5).trans hb6))
                      clear hO7 hD4 hD5 hD6 ho6 ho5 hb5 hb6 hk5 hk6 hs5 hs6 k0 v0
                      go_wp2_with fail
                      go_roundw
                      case rel => exact ⟨t + 1, D ++ [b], R.erase b, by omega, by go_num, by simp [hDl], HPN, HO7, HD6, HB7.out⟩
                      case measure => simp [intOf]; omega
              · obtain rfl : t = ls.length := by omega
                have hRl : R = [] := by
                  have := HPK.out.perm.length_eq
                  rw [List.length_append, List.length_range] at this
                  exact List.eq_nil_of_length_eq_zero (by omega)
                subst hRl
                have hpm : D.Perm (List.range ls.length) := by simpa using HPK.out.perm
                have hMb : 1 + total (content K ls D) ≤ 100000 := by
                  have h3 := content_small (K := K) HM.out D
                  have h4 : D.length * (1000 + 1) ≤ 12 * 1001 := Nat.mul_le_mul (by omega) (by omega)
                  omega
                have ho := HOW.out
                obtain ⟨M, hMM⟩ : ∃ M, 1 + total (content K ls D) = M := ⟨_, rfl⟩
                rw [hMM] at ho ⊢
                obtain ⟨g3, c3', hveq, _, _⟩ := ho.form (by omega)
                simp only [Value.slice.injEq, true_and] at hveq
                obtain ⟨rfl, rfl⟩ := hveq
                have hok1 : ∀ x ∈ (⟨6, ls.length, ⟨#[]⟩⟩ :: (content K ls D).flatten : List It), 0 ≤ x.n ∧ x.d.size ≤ maxLen := by
                  intro x hx
                  rcases List.mem_cons.1 hx with rfl | hx
                  · exact ⟨by simp, Nat.zero_le _⟩
                  · obtain ⟨l, hl, hx⟩ := List.mem_flatten.1 hx
                    unfold content at hl
                    obtain ⟨i, hi, hl⟩ := List.mem_flatMap.1 hl
                    have him : i < ls.length := List.mem_range.1 (hpm.mem_iff.1 hi)
                    simp only [List.mem_cons, List.not_mem_nil, or_false] at hl
                    rcases hl with rfl | rfl
                    · rw [List.mem_singleton.1 hx]; exact ⟨HKK.out i, Nat.zero_le _⟩
                    · exact (HVS.out i him).2.ok x hx
                have hI3 := itemsAt_own ho hok1 (by simp only [List.length_cons]; unfold total at hMM hMb; omega)
                have HI3 := Lib.hid hI3
                have hcap : ∀ (a : Option Addr) (c : Nat), Value.slice (some ⟨g3, 0, none⟩) M cO = .slice a (⟨6, ls.length, ⟨#[]⟩⟩ :: (content K ls D).flatten : List It).length c → (⟨6, ls.length, ⟨#[]⟩⟩ :: (content K ls D).flatten : List It).length ≤ c := fun a c e => by
                  have h9 := row_cap ho
                  simp only [Value.slice.injEq] at e
                  omega
                have HCAP := Lib.hid hcap
                have HC := Lib.hid (validP_any _ _ wr hI3 (HT.out.later HBC.out))
                have hfin := Lib.hid (show MapR K ls.length ls (contE 6 ls.length (content K ls D)) from .inr (.inr (.inr ⟨rfl, hnd.out, HZ.out, D, hpm, HPK.out.strict, rfl⟩)))
                clear hI3 ho hok1 hpm hMM hcap
                by_cases hz : validE (⟨6, ls.length, ⟨#[]⟩⟩ :: (content K ls D).flatten) = 0
                · have hzb : (validE (⟨6, ls.length, ⟨#[]⟩⟩ :: (content K ls D).flatten) != 0) = false := by simp [hz]
                  have hF : contE 6 ls.length (content K ls D) = (0, ⟨6, ls.length, ⟨#[]⟩⟩ :: (content K ls D).flatten) := by unfold contE; rw [if_pos hz]
                  have HF := Lib.hid hF
                  clear hz hF
                  go_wp2_with (go_at_call 19; refine HC.out.mono ?_; rintro e w1 ⟨rfl, hb1⟩)
                  go_ret2
                  refine ⟨_, hfin.out, ?_⟩
                  rw [HF.out]
                  exact ⟨.slice (some ⟨g3, 0, none⟩) M cO, rfl, itemsAt_mono (HI3.out.below hb1) hb1.size, HCAP.out, HBC.out.trans (hb1.mono hsc)⟩
                · have hzb : (validE (⟨6, ls.length, ⟨#[]⟩⟩ :: (content K ls D).flatten) != 0) = true := by simp [hz]
                  have hF : contE 6 ls.length (content K ls D) = (validE (⟨6, ls.length, ⟨#[]⟩⟩ :: (content K ls D).flatten), []) := by unfold contE; rw [if_neg hz]
                  have HF := Lib.hid hF
                  clear hz hF
                  go_wp2_with (go_at_call 19; refine HC.out.mono ?_; rintro e w1 ⟨rfl, hb1⟩)
                  go_ret2
                  refine ⟨_, hfin.out, ?_⟩
                  rw [HF.out]
                  exact ⟨_, rfl, itemsAt_nil _ _, nil_cap, HBC.out.trans (hb1.mono hsc)⟩
  · have hne : ((n : Int) == (ls.length : Int)) = false := by rw [beq_eq_false_iff_ne]; omega
    have hne2 : ¬ (n : Int) = (ls.length : Int) := by omega
    go_enter Tryd.func31, Tryd.ntmps31
    go_wp2
    go_ret2
    exact ⟨(4, []), .inl ⟨hnm, rfl⟩, _, rfl, itemsAt_nil _ _, nil_cap, Below.refl _ _⟩
end Go.Proofs.YtepinmeidjlmmaaDoor

/- What Lookup finds in a map that was put together (plain). -/
namespace Go.Proofs.YtepinmeidjlmmaaDoor
open Go.RowKit
set_option maxRecDepth 100000

theorem skip_emb : ∀ (v r : List It), (∀ x ∈ v, 0 ≤ x.n) → ∀ (need : Int) (p : Nat), 1 ≤ need → skipGo v need p = (((p + v.length : Nat) : Int), true) → ∀ (m : Int) (a : Nat), 0 ≤ m → skipGo (v ++ r) (need + m) a = if m = 0 then (((a + v.length : Nat) : Int), true) else skipGo r m (a + v.length)
  | [], _, _, need, p, _, h, _, _, _ => by simp [skipGo] at h
  | x :: v, r, hpos, need, p, h1, h, m, a, hm => by
    rw [skipGo] at h
    rw [List.cons_append, skipGo]
    by_cases ht : tooManyB x.k x.n = true
    · rw [if_pos ht] at h; simp at h
    · rw [if_neg ht] at h ⊢
      have hpp := (parts_small (x := x) (hpos x (by simp)) (by simpa using ht)).1
      by_cases h0 : need - 1 + partsN x.k x.n = 0
      · rw [if_pos h0] at h
        have hl : v.length = 0 := by
          simp only [Prod.mk.injEq, and_true, List.length_cons] at h
          omega
        obtain rfl : v = [] := List.eq_nil_of_length_eq_zero hl
        by_cases hm0 : m = 0
        · subst hm0
          rw [if_pos (by omega), if_pos rfl]
          simp
        · rw [if_neg (by omega), if_neg hm0, show need + m - 1 + partsN x.k x.n = m from by omega]
          rfl
      · rw [if_neg h0] at h
        rw [if_neg (by omega), show need + m - 1 + partsN x.k x.n = (need - 1 + partsN x.k x.n) + m from by omega,
          skip_emb v r (fun y hy => hpos y (List.mem_cons_of_mem _ hy)) _ (p + 1) (by omega) (by rw [h]; simp; omega) m (a + 1) hm]
        simp only [List.length_cons]
        rw [show a + 1 + v.length = a + (v.length + 1) from by omega]
theorem valid_emb {L v r : List It} {a : Nat} (hpos : ∀ x ∈ v, 0 ≤ x.n) (hv : validE v = 0) (hd : L.drop a = v ++ r) (ha : a ≤ L.length) : SkipsTo L a (a + v.length) := by
  have hs := valid_skip v hpos hv
  have hne : 0 < v.length := by
    cases v with
    | nil => exact absurd hv (by decide)
    | cons x r => simp
  have hle : a + v.length ≤ L.length := by
    have := congrArg List.length hd
    rw [List.length_drop, List.length_append] at this
    omega
  unfold skipE at hs
  rw [if_neg (by omega)] at hs
  have hgo : skipGo v 1 0 = (((0 + v.length : Nat) : Int), true) := by
    rw [Nat.zero_add]; exact hs
  refine ⟨fun m hm => ?_, by omega, hle⟩
  have hdr : L.drop (a + v.length) = r := by rw [← List.drop_drop, hd, List.drop_left]
  unfold skipTo
  rw [if_neg (by omega), hd, show m + 1 = 1 + m from by omega, skip_emb v r hpos 1 0 (by omega) hgo m a hm, hdr]

theorem look_go {K : Nat → Int} {ls : List (List It)} {n : Nat} {L : List It} (hinj : ∀ a b, a < n → b < n → K a = K b → a = b) (hv : ∀ i, i < n → validE (ls.getD i []) = 0 ∧ ∀ x ∈ ls.getD i [], 0 ≤ x.n) {i : Nat} (hi : i < n) :
    ∀ (B : List Nat) (a : Nat), (∀ x ∈ B, x < n) → i ∈ B → L.drop a = (content K ls B).flatten → a ≤ L.length → ∃ p q, lookGo L (K i) B.length a = some (p, q) ∧ (L.drop p).take (q - p) = ls.getD i []
  | [], _, _, h, _, _ => by cases h
  | x :: B, a, hB, hmem, hd, ha => by
    have hx := hB x (by simp)
    have e : (content K ls (x :: B)).flatten = ⟨1, K x, ⟨#[]⟩⟩ :: (ls.getD x [] ++ (content K ls B).flatten) := by simp [content]
    rw [e] at hd
    have hal : a < L.length := by
      have := congrArg List.length hd
      rw [List.length_drop] at this
      simp at this
      omega
    have h0 : L[a]? = some ⟨1, K x, ⟨#[]⟩⟩ := by
      have := congrArg (fun l => l[0]?) hd
      simpa using this
    have hd1 : L.drop (a + 1) = ls.getD x [] ++ (content K ls B).flatten := by
      rw [← List.drop_drop, hd]; rfl
    obtain ⟨hvx, hpx⟩ := hv x hx
    have hs := valid_emb hpx hvx hd1 (by omega)
    by_cases hk : K x = K i
    · have hxi := hinj x i hx hi hk
      subst hxi
      refine ⟨a + 1, a + 1 + (ls.getD x []).length, look_hit h0 hs ⟨rfl, rfl⟩, ?_⟩
      rw [hd1, show a + 1 + (ls.getD x []).length - (a + 1) = (ls.getD x []).length from by omega, List.take_left]
    · rw [List.length_cons, look_miss h0 hs (fun h => hk h.2)]
      refine look_go hinj hv hi B _ (fun y hy => hB y (List.mem_cons_of_mem _ hy)) ?_ ?_ hs.le
      · rcases List.mem_cons.1 hmem with h1 | h1
        · subst h1; exact absurd rfl hk
        · exact h1
      · rw [← List.drop_drop, hd1, List.drop_left]
theorem look_made {K : Nat → Int} {ls : List (List It)} {P : List Nat} (hp : P.Perm (List.range ls.length)) (hnd : ((List.range ls.length).map K).Nodup) (hv : valAllE ls = 0) (hpos : ∀ l ∈ ls, ∀ x ∈ l, 0 ≤ x.n)
    (hz : validE (⟨6, (ls.length : Int), ⟨#[]⟩⟩ :: (content K ls P).flatten) = 0) {i : Nat} (hi : i < ls.length) :
    ∃ r, lookE (⟨6, (ls.length : Int), ⟨#[]⟩⟩ :: (content K ls P).flatten) (K i) = some r ∧ lookL (⟨6, (ls.length : Int), ⟨#[]⟩⟩ :: (content K ls P).flatten) (some r) = ls.getD i [] := by
  have hl : P.length = ls.length := by have := hp.length_eq; rwa [List.length_range] at this
  have hinj : ∀ a b, a < ls.length → b < ls.length → K a = K b → a = b := by
    intro a b ha hb he
    rcases Nat.lt_trichotomy a b with h | h | h
    · exact absurd hnd (fun hn => by
        unfold List.Nodup at hn
        rw [List.pairwise_map, List.pairwise_iff_getElem] at hn
        have := hn a b (by simpa using ha) (by simpa using hb) h
        simp only [List.getElem_range] at this
        exact this he)
    · exact h
    · exact absurd hnd (fun hn => by
        unfold List.Nodup at hn
        rw [List.pairwise_map, List.pairwise_iff_getElem] at hn
        have := hn b a (by simpa using hb) (by simpa using ha) h
        simp only [List.getElem_range] at this
        exact this he.symm)
  have hvv : ∀ i, i < ls.length → validE (ls.getD i []) = 0 ∧ ∀ x ∈ ls.getD i [], 0 ≤ x.n := by
    intro i hi
    have e : ls.getD i [] = ls[i] := by simp [List.getD, hi]
    rw [e]
    exact ⟨(valAll_ne hv _ (List.getElem_mem hi)).2, hpos _ (List.getElem_mem hi)⟩
  obtain ⟨p, q, h1, h2⟩ := look_go (L := ⟨6, (ls.length : Int), ⟨#[]⟩⟩ :: (content K ls P).flatten) hinj hvv hi P 1 (fun x hx => List.mem_range.1 (hp.mem_iff.1 hx)) (hp.mem_iff.2 (List.mem_range.2 hi)) rfl (by simp)
  refine ⟨(p, q), ?_, h2⟩
  unfold lookE
  rw [if_pos hz]
  simp only [List.getElem?_cons_zero, if_true, Int.toNat_natCast]
  rw [hl] at h1
  exact h1
end Go.Proofs.YtepinmeidjlmmaaDoor
