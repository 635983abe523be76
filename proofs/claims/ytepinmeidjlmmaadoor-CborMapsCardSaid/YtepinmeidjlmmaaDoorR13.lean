/- Joined: M3, T6, T7, U1, U2, U3, U4, U5. -/
import Derived.Test.YtepinmeidjlmmaaDoorR4
import Derived.Test.YtepinmeidjlmmaaDoorR9
import Derived.Test.YtepinmeidjlmmaaDoorR12
import Derived.Deep.AppendLies
import Derived.Test.YtepinmeidjlmmaaDoorR11
import Derived.Test.YtepinmeidjlmmaaDoorR10
/- The reference's Array. -/
namespace Go.Proofs.YtepinmeidjlmmaaDoor
open Go.RowKit
set_option maxRecDepth 100000

theorem vs_at {w : World} {B : Nat} {V : Value} {ls : List (List It)} (h : VS w B V ls) {i : Nat} (hi : i < ls.length) : ∃ cb cap, V = .slice (some ⟨cb, 0, none⟩) ls.length cap ∧ ValsW w B cb ls := by
  rcases h with ⟨_, rfl⟩ | h
  · cases hi
  · exact h
theorem validP_any (l : List It) (v : Value) (w : World) (hI : ItemsAt w w.heap.size v l) (ht : Tabs w) :
    Calls Tryd.prog 19 #[v] w fun e w' => e = .returned (.int .i64 (validE l)) ∧ Below w.heap.size w w' := by
  have := validR_any l v w hI ht
  rwa [← valid_same l (fun x hx => (hI.ok x hx).1)] at this

set_option maxHeartbeats 2000000 in
theorem arrayR_any (V : Value) (ls : List (List It)) (w : World) (hV : VS w w.heap.size V ls) (ht : Tabs w) (hn : ls.length ≤ 512) (h2 : total ls ≤ 900000) :
    Calls Tryd.prog 33 #[V] w (ResP (arrayE ls) w) := by
  have HV := Lib.hid hV
  have HT := Lib.hid ht
  obtain ⟨A, cap, rfl⟩ := hV.len
  have hok := Lib.hid hV.ok
  clear hV ht
  go_enter Tryd.func33, Tryd.ntmps33
  go_wp2_with fail
  go_loopw [4, 5] (fun v i wr => ∃ j M : Nat, j ≤ ls.length ∧ i = .int .i64 j ∧ M = 1 + total (ls.take j) ∧ wr.ownsRow w.heap.size 58 3 v M (itCells (⟨5, ls.length, ⟨#[]⟩⟩ :: (ls.take j).flatten)) ∧ Below w.heap.size w wr ∧ valAllE (ls.drop j) = valAllE ls) (fun _ i _ => ls.length - (intOf i).toNat)
  case atStart => exact ⟨0, 1, by omega, rfl, rfl, own_lit w 5 ls.length ⟨#[]⟩ w.heap.size (Nat.le_refl _), (Below.refl _ w).alloc (Nat.le_refl _) _, rfl⟩
  case round =>
    obtain ⟨j, M, hj, rfl, hM, ho, hb, hgo⟩ := hrel
    have HB := Lib.hid hb
    have HO := Lib.hid ho
    have HGO := Lib.hid hgo
    have HM := Lib.hid hM
    have hMl : M ≤ 900001 := by have := total_le ls j; omega
    have hM1 : 1 ≤ M := by omega
    have hsz := hb.size
    obtain ⟨A3, c3, rfl⟩ := own_form ho
    clear hb hgo ho hM
    by_cases hlt : j < ls.length
    · obtain ⟨cb, cap2, hveq, hW⟩ := vs_at HV.out hlt
      cases hveq
      obtain ⟨A2, c2, hc, hI⟩ := hW.cell j hlt
      have q := (HB.out.cell (p := ⟨cb, j, none⟩) hW.lt).trans hc
      have hC := validP_any ls[j] _ wr (itemsAt_mono (hI.below HB.out) hsz) (HT.out.later HB.out)
      have HC := Lib.hid hC
      have hdr := drop_at' hlt
      have HDR := Lib.hid hdr
      have hlj := hI.len
      have HI := Lib.hid hI
      have hlb : (j : Int) < (ls.length : Int) := by omega
      have hcb := hW.lt
      have HQ := Lib.hid q
      clear hC hI hc hdr hW
      by_cases hz : validE ls[j] = 0
      · have hzb : (validE ls[j] != 0) = false := by simp [hz]
        have hne : ls[j] ≠ [] := fun e => by rw [e] at hz; exact absurd hz (by decide)
        obtain ⟨b, off, c4, hveq, hlt4, _⟩ : ∃ b off c4, Value.slice A2 ls[j].length c2 = .slice (some ⟨b, off, none⟩) ls[j].length c4 ∧ b < w.heap.size ∧ True := by
          rcases HI.out.form with ⟨_, h0⟩ | ⟨b, off, c4, hv, hl4, _⟩
          · exact absurd h0 hne
          · exact ⟨b, off, c4, hv, hl4, trivial⟩
        simp only [Value.slice.injEq, true_and] at hveq
        obtain ⟨rfl, rfl⟩ := hveq
        have HNE := Lib.hid hne
        have HZ := Lib.hid hz
        have htk := total_take hlt
        have hft := flat_take hlt
        have htl := total_le ls (j + 1)
        have HTK := Lib.hid htk
        have HFT := Lib.hid hft
        clear hz hft
        go_wp2_with fail
        refine HC.out.mono ?_
        rintro e w1 ⟨rfl, hb1⟩
        have HB1 := Lib.hid (HB.out.trans (hb1.mono hsz))
        have HO1 := Lib.hid (own_below HO.out hb1)
        have q1 := (hb1.cell (p := ⟨cb, j, none⟩) (show cb < wr.heap.size by omega)).trans HQ.out
        have hs1 := hb1.size
        clear hb1 q
        go_wp2_with (at_builtin; (refine app_items3 rfl _ _ rfl w.heap.size _ M (⟨5, ls.length, ⟨#[]⟩⟩ :: (ls.take j).flatten) ls[j] w.heap.size b off c2 HO1.out rfl (by exact HI.out.below HB1.out) rfl HNE.out (by omega) (by omega) (by omega) ?_); intro v4 w4 ho4 hb4 _)
        go_roundw
        case rel => exact ⟨j + 1, M + ls[j].length, by omega, by go_num, by rw [HTK.out, HM.out]; omega, by rw [HFT.out]; exact ho4, HB1.out.trans hb4, by rw [← HGO.out, HDR.out, valAll_yes HZ.out]⟩
        case measure => simp [intOf]; omega
      · have hzb : (validE ls[j] != 0) = true := by simp [hz]
        have hv : valAllE ls = validE ls[j] := by rw [← HGO.out, HDR.out, valAll_no hz]
        have hfin : arrayE ls = (validE ls[j], []) := by unfold arrayE; rw [if_neg (by rw [hv]; exact hz), hv]
        have HF := Lib.hid hfin
        clear hz hv hfin
        go_wp2_with (go_at_call 19; refine HC.out.mono ?_; rintro e w1 ⟨rfl, hb1⟩)
        go_ret2
        rw [HF.out]
        exact ⟨_, rfl, itemsAt_nil _ _, nil_cap, HB.out.trans (hb1.mono hsz)⟩
    · have hjl : j = ls.length := by omega
      subst hjl
      have hv : valAllE ls = 0 := by rw [← HGO.out, List.drop_length]; rfl
      have ho := HO.out
      rw [List.take_length] at ho
      obtain ⟨g3, c3', hveq, _, _⟩ := ho.form (by omega)
      simp only [Value.slice.injEq, true_and] at hveq
      obtain ⟨rfl, rfl⟩ := hveq
      have hok1 : ∀ x ∈ (⟨5, ls.length, ⟨#[]⟩⟩ :: ls.flatten : List It), 0 ≤ x.n ∧ x.d.size ≤ maxLen := by
        intro x hx
        rcases List.mem_cons.1 hx with rfl | hx
        · exact ⟨by simp, Nat.zero_le _⟩
        · obtain ⟨l, hl, hx⟩ := List.mem_flatten.1 hx
          exact hok.out l hl x hx
      have hI3 : ItemsAt wr wr.heap.size (.slice (some ⟨g3, 0, none⟩) M c3) (⟨5, ls.length, ⟨#[]⟩⟩ :: ls.flatten) :=
        itemsAt_own ho hok1 (by simp only [List.length_cons]; unfold total at h2; omega)
      have HI3 := Lib.hid hI3
      have hcap : ∀ (a : Option Addr) (c : Nat), Value.slice (some ⟨g3, 0, none⟩) M c3 = .slice a (⟨5, ls.length, ⟨#[]⟩⟩ :: ls.flatten : List It).length c → (⟨5, ls.length, ⟨#[]⟩⟩ :: ls.flatten : List It).length ≤ c := fun a c e => by
        have h9 := row_cap ho
        simp only [Value.slice.injEq] at e
        omega
      have HCAP := Lib.hid hcap
      have hC := validP_any _ _ wr hI3 (HT.out.later HB.out)
      have HC := Lib.hid hC
      have hE : arrayE ls = contE 5 ls.length ls := by unfold arrayE; rw [if_pos hv]
      clear hC hI3 ho hv hok1 hcap
      by_cases hz : validE (⟨5, ls.length, ⟨#[]⟩⟩ :: ls.flatten) = 0
      · have hzb : (validE (⟨5, ls.length, ⟨#[]⟩⟩ :: ls.flatten) != 0) = false := by simp [hz]
        have hF : arrayE ls = (0, ⟨5, ls.length, ⟨#[]⟩⟩ :: ls.flatten) := by rw [hE]; unfold contE; rw [if_pos hz]
        have HF := Lib.hid hF
        clear hz hF hE
        go_wp2_with (go_at_call 19; refine HC.out.mono ?_; rintro e w1 ⟨rfl, hb1⟩)
        go_ret2
        rw [HF.out]
        exact ⟨.slice (some ⟨g3, 0, none⟩) M c3, rfl, itemsAt_mono (HI3.out.below hb1) hb1.size, HCAP.out, HB.out.trans (hb1.mono hsz)⟩
      · have hzb : (validE (⟨5, ls.length, ⟨#[]⟩⟩ :: ls.flatten) != 0) = true := by simp [hz]
        have hF : arrayE ls = (validE (⟨5, ls.length, ⟨#[]⟩⟩ :: ls.flatten), []) := by rw [hE]; unfold contE; rw [if_neg hz]
        have HF := Lib.hid hF
        clear hz hF hE
        go_wp2_with (go_at_call 19; refine HC.out.mono ?_; rintro e w1 ⟨rfl, hb1⟩)
        go_ret2
        rw [HF.out]
        exact ⟨_, rfl, itemsAt_nil _ _, nil_cap, HB.out.trans (hb1.mono hsz)⟩
end Go.Proofs.YtepinmeidjlmmaaDoor

/- The tree of a law: one contract. -/
namespace Go.Proofs.YtepinmeidjlmmaaDoor
open Go.RowKit
set_option maxRecDepth 100000

theorem lenB_le {f : Nat} (h : f ≤ 3) : lenB f ≤ 300 := by
  match f, h with
  | 0, _ => decide
  | 1, _ => decide
  | 2, _ => decide
  | 3, _ => decide
theorem numB_le {f : Nat} (h : f ≤ 3) : numB f ≤ 200 := by
  match f, h with
  | 0, _ => decide
  | 1, _ => decide
  | 2, _ => decide
  | 3, _ => decide

theorem tree_any (A : Option Addr) (n cap : Nat) (l : List Int) (hn : n ≤ 9223372036854775807) : ∀ (f dep a : Nat) (w : World), f + dep = 4 → a ≤ 800 → Ints w A n l →
    Calls Tryd.prog 43 #[.slice A n cap, .int .i64 a, .int .i64 dep] w (TreeP (treeE l f a) w) := by
  intro f
  induction f with
  | zero =>
    intro dep a w hd ha h
    rw [treeE_zero]
    exact leaf_any A n cap l a dep w h hn (by omega) (.inr (.inl (by omega)))
  | succ f ih =>
    intro dep a w hd ha h
    cases hb : nestB (atI l a) a with
    | false =>
      rw [treeE_leaf hb]
      refine leaf_any A n cap l a dep w h hn (by omega) ?_
      unfold nestB at hb
      simp only [Bool.and_eq_false_iff, decide_eq_false_iff_not] at hb
      omega
    | true =>
      rw [treeE_nest hb]
      unfold nestB at hb
      simp only [Bool.and_eq_true, decide_eq_true_eq] at hb
      have hlt := atI_lt l a (by omega)
      have hC : KidC (treeE l f) A n cap dep 800 w := fun W a2 hW ha2 => by
        have := ih (dep + 1) a2 W (by omega) ha2 (h.below hW)
        rwa [Int.natCast_add] at this
      have hB := tree_bound l f
      have hL := lenB_le (f := f) (by omega)
      have hM := numB_le (f := f) (by omega)
      by_cases h6 : atI l a % 8 = 6
      · have e := tree_array (treeE l f) A n cap l a dep (atI l a) (atI l a / 8) (numB f) (lenB f) w h hn (by omega) rfl rfl hlt h6 (by omega) hB hM hL (tree_ne l f) (tree_fine l f) hC
        rw [headI, keysOf, if_pos h6, if_pos h6]
        exact e
      · have e := tree_map (treeE l f) A n cap l a dep (atI l a) (atI l a / 8) (numB f) (lenB f) w h hn (by omega) rfl rfl hlt (by omega) (by omega) hB hM hL (tree_ne l f) (tree_fine l f) hC
        rw [headI, keysOf, if_neg h6, if_neg h6]
        exact e

/-- the items of Tree -/
def treeL (l : List Int) : List It := (treeE l 4 0).1
theorem treeL_len (l : List Int) : (treeL l).length ≤ 241 := (tree_bound l 4 0).1
theorem treeL_ne (l : List Int) : treeL l ≠ [] := tree_ne l 4 0
theorem treeL_fine (l : List Int) : ∀ x ∈ treeL l, Fine x := tree_fine l 4 0

set_option maxHeartbeats 1000000 in
theorem Tree_any (A : Option Addr) (n cap : Nat) (l : List Int) (w : World) (h : Ints w A n l) (hn : n ≤ 9223372036854775807) :
    Calls Tryd.prog 20 #[.slice A n cap] w fun e w' => ∃ g c, e = .returned (.slice (some ⟨g, 0, none⟩) (treeL l).length c) ∧ w'.ownsRow w.heap.size 58 3 (.slice (some ⟨g, 0, none⟩) (treeL l).length c) (treeL l).length (itCells (treeL l)) ∧ Below w.heap.size w w' := by
  have HC := Lib.hid (tree_any A n cap l hn 4 0 0 w rfl (by omega) h)
  have hne := treeL_ne l
  unfold treeL at *
  generalize treeE l 4 0 = r at *
  obtain ⟨xs, a3⟩ := r
  dsimp only at hne ⊢
  go_enter Tryd.func20, Tryd.ntmps20
  go_wp2_with (go_at_call 43; refine HC.out.mono ?_; rintro e w1 ⟨v1, rfl, ho1, hb1⟩; have HO1 := Lib.hid ho1; have HB1 := Lib.hid hb1; clear ho1 hb1)
  go_ret
  obtain ⟨A1, c1, hv1⟩ := own_form HO1.out
  subst hv1
  have ho := HO1.out
  rcases ho.2 with ⟨hv, h0⟩ | ⟨g, c2, cur, hv, _⟩
  · exact absurd (List.eq_nil_of_length_eq_zero h0) hne
  · cases hv
    exact ⟨g, c1, rfl, ho, HB1.out⟩
end Go.Proofs.YtepinmeidjlmmaaDoor

/- The tree of a law is a data item. -/
namespace Go.Proofs.YtepinmeidjlmmaaDoor
open Go.RowKit
set_option maxRecDepth 100000

theorem text_all : ((List.range 8).all fun i => (List.range 8).all fun j => Lib.validD (wordS i ++ wordS j).data.toList) = true := by decide +kernel
theorem long_all : ((List.range 4).all fun k => Lib.validD (longkey ++ textS k).data.toList) = true := by decide +kernel
def lessD (a b : ByteArray) : Bool := if a.size = b.size then Op.bytesLess a.data.toList b.data.toList else decide (a.size < b.size)
theorem lessD_eq (a b : ByteArray) : lessB a b = lessD a b := by rw [lessB, lessD, Lib.toList_data, Lib.toList_data]
theorem keys_all : ((List.range 32).all fun r => (List.range 2).all fun i => lessD (bytesS 1 ((r + 20 * i : Nat) : Int) ⟨#[]⟩) (bytesS 1 ((r + 20 * (i + 1) : Nat) : Int) ⟨#[]⟩)) = true := by decide +kernel
theorem keysL_all : ((List.range 32).all fun r => (List.range 4).all fun k => lessD (bytesS 1 ((r + 20 : Nat) : Int) ⟨#[]⟩) (bytesS 4 0 (longkey ++ textS k))) = true := by decide +kernel
theorem text_valid (k : Nat) : Lib.validD (textS k).data.toList = true := by
  have h := List.all_eq_true.1 text_all (k % 8) (List.mem_range.2 (Nat.mod_lt _ (by decide)))
  exact List.all_eq_true.1 h (k / 8 % 8) (List.mem_range.2 (Nat.mod_lt _ (by decide)))
theorem long_valid (k : Nat) (h : k < 4) : Lib.validD (longkey ++ textS k).data.toList = true := List.all_eq_true.1 long_all k (List.mem_range.2 h)

def bytesI (x : It) : ByteArray := bytesS x.k x.n x.d
theorem key_less (K i : Nat) (hi : i < 2) : lessB (bytesI (keyI K i)) (bytesI (keyI K (i + 1))) = true := by
  rw [lessD_eq]
  have e : keyI K i = ⟨1, ((K / 4 % 32 + 20 * i : Nat) : Int), ⟨#[]⟩⟩ := by rw [keyI, if_neg (by omega)]
  rw [e]
  by_cases h : i + 1 = 2 ∧ K / 128 % 2 = 1
  · obtain rfl : i = 1 := by omega
    rw [keyI, if_pos h]
    have h1 := List.all_eq_true.1 keysL_all (K / 4 % 32) (List.mem_range.2 (Nat.mod_lt _ (by decide)))
    exact List.all_eq_true.1 h1 (K % 4) (List.mem_range.2 (Nat.mod_lt _ (by decide)))
  · rw [keyI, if_neg h]
    have h1 := List.all_eq_true.1 keys_all (K / 4 % 32) (List.mem_range.2 (Nat.mod_lt _ (by decide)))
    exact List.all_eq_true.1 h1 i (List.mem_range.2 hi)

structure Good (x : It) : Prop where
  k1 : 1 ≤ x.k
  k8 : x.k ≤ 8
  sh : shapeB x.k x.n x.d = true
  lg : tooLargeB x.k (argN x.k x.n x.d) = false
  u8 : x.k = 4 → Lib.validD x.d.data.toList = true
theorem checkR_ok {c dep : Nat} {key : Bool} {bf : ByteArray} {x : It} (h1 : c < 512) (h : Good x) (h3 : key = true → canKeyB x.k = true) (h4 : dep ≤ 8) (h8 : key = true → bf.toList.isEmpty = true ∨ lessB bf (bytesI x) = true) :
    checkRE c dep key bf x.k x.n x.d = 0 := by
  unfold checkRE
  rw [if_neg (by omega), if_neg (by have := h.k1; have := h.k8; omega), if_neg (fun hh => by have := h3 hh.1; rw [hh.2] at this; cases this), if_neg (by omega), if_neg (by rw [h.sh]; simp), if_neg (by rw [h.lg]; simp),
    if_neg (fun hh => by have := h.u8 hh.1; rw [hh.2] at this; cases this), if_neg]
  intro hh
  obtain ⟨q1, q2, q3⟩ := hh
  rcases h8 q1 with q | q
  · rw [q] at q2; cases q2
  · unfold bytesI at q; rw [q] at q3; cases q3

theorem none_empty : (⟨#[]⟩ : ByteArray).toList.isEmpty = true := by rw [Lib.toList_data]; rfl
theorem shape_plain {k n : Int} (h : k = 1 ∨ k = 2 ∨ k = 5 ∨ k = 6 ∨ (k = 7 ∧ n ≤ 1) ∨ (k = 8 ∧ n = 0)) : shapeB k n ⟨#[]⟩ = true := by
  rw [shape_sw (by rw [none_empty]; simp)]
  rcases h with rfl | rfl | rfl | rfl | ⟨rfl, h⟩ | ⟨rfl, rfl⟩
  all_goals simp
  exact h
theorem shape_dat {k : Int} (d : ByteArray) (h : k = 3 ∨ k = 4) : shapeB k 0 d = true := by
  have hd : hasDataB k = true := by rcases h with rfl | rfl <;> rfl
  rw [shape_sw (by rw [hd]; simp)]
  rcases h with rfl | rfl <;> simp
theorem large_plain {k n : Int} (d : ByteArray) (h : k = 1 ∨ k = 2 ∨ ((k = 5 ∨ k = 6) ∧ n ≤ 512) ∨ k = 7 ∨ k = 8) : tooLargeB k (argN k n d) = false := by
  rcases h with rfl | rfl | ⟨rfl | rfl, h⟩ | rfl | rfl
  all_goals simp [tooLargeB, tooManyB, hasDataB, argN]
  all_goals exact h
theorem large_data {k n : Int} {d : ByteArray} (h : k = 3 ∨ k = 4) (hd : d.size ≤ 1024) : tooLargeB k (argN k n d) = false := by
  rcases h with rfl | rfl
  all_goals simp [tooLargeB, tooManyB, hasDataB, argN]
  all_goals omega

theorem leaf_good (n : Nat) : Good (leafI n) ∧ ¬ ((leafI n).k = 5 ∨ (leafI n).k = 6) := by
  have ht := text_size (n / 8)
  unfold leafI
  repeat' split
  · exact ⟨⟨by dsimp only; decide, by dsimp only; decide, shape_plain (.inl rfl), large_plain _ (.inl rfl), fun h => by cases h⟩, by dsimp only; decide⟩
  · exact ⟨⟨by dsimp only; decide, by dsimp only; decide, shape_plain (.inr (.inl rfl)), large_plain _ (.inr (.inl rfl)), fun h => by cases h⟩, by dsimp only; decide⟩
  · exact ⟨⟨by dsimp only; decide, by dsimp only; decide, shape_dat _ (.inl rfl), large_data (.inl rfl) (by dsimp only; omega), fun h => by cases h⟩, by dsimp only; decide⟩
  · exact ⟨⟨by dsimp only; decide, by dsimp only; decide, shape_dat _ (.inr rfl), large_data (.inr rfl) (by dsimp only; omega), fun _ => text_valid _⟩, by dsimp only; decide⟩
  · exact ⟨⟨by dsimp only; decide, by dsimp only; decide, shape_plain (.inr (.inr (.inr (.inr (.inl ⟨rfl, by dsimp only; omega⟩))))), large_plain _ (.inr (.inr (.inr (.inl rfl)))), fun h => by cases h⟩, by dsimp only; decide⟩
  · exact ⟨⟨by dsimp only; decide, by dsimp only; decide, shape_plain (.inr (.inr (.inr (.inr (.inr ⟨rfl, rfl⟩))))), large_plain _ (.inr (.inr (.inr (.inr rfl)))), fun h => by cases h⟩, by dsimp only; decide⟩
theorem key_good (K i : Nat) : Good (keyI K i) ∧ canKeyB (keyI K i).k = true ∧ ¬ ((keyI K i).k = 5 ∨ (keyI K i).k = 6) := by
  have hf := (key_fine K i).2
  unfold keyI at *
  split
  · rename_i h
    rw [if_pos h] at hf
    exact ⟨⟨by dsimp only; decide, by dsimp only; decide, shape_dat _ (.inr rfl), large_data (.inr rfl) (by dsimp only at *; omega), fun _ => long_valid _ (Nat.mod_lt _ (by decide))⟩, by rfl, by dsimp only; decide⟩
  · exact ⟨⟨by dsimp only; decide, by dsimp only; decide, shape_plain (.inl rfl), large_plain _ (.inl rfl), fun h => by cases h⟩, by rfl, by dsimp only; decide⟩
theorem head_good (n : Nat) : Good (headI n) ∧ ((headI n).k = 5 ∨ (headI n).k = 6) := by
  unfold headI
  split
  · exact ⟨⟨by dsimp only; decide, by dsimp only; decide, shape_plain (.inr (.inr (.inl rfl))), large_plain _ (.inr (.inr (.inl ⟨.inl rfl, by dsimp only; omega⟩))), fun h => by cases h⟩, .inl rfl⟩
  · exact ⟨⟨by dsimp only; decide, by dsimp only; decide, shape_plain (.inr (.inr (.inr (.inl rfl)))), large_plain _ (.inr (.inr (.inl ⟨.inr rfl, by dsimp only; omega⟩))), fun h => by cases h⟩, .inr rfl⟩

theorem at_drop {X r : List It} {x : It} {p : Nat} (h : X.drop p = x :: r) : X[p]? = some x ∧ X.drop (p + 1) = r := by
  refine ⟨?_, ?_⟩
  · have e : (X.drop p)[0]? = some x := by rw [h]; rfl
    rwa [List.getElem?_drop, Nat.add_zero] at e
  · have e : (X.drop p).drop 1 = r := by rw [h]; rfl
    rwa [List.drop_drop] at e
theorem drop_app {X s r : List It} {p : Nat} (h : X.drop p = s ++ r) : X.drop (p + s.length) = r := by
  have e : (X.drop p).drop s.length = r := by rw [h]; simp
  rwa [List.drop_drop] at e

theorem kids_array {T : Nat → List It × Nat} {X : List It} {W : Nat → Bool → ByteArray → Nat × Int}
    (hV : ∀ a p r, X.drop p = (T a).1 ++ r → p + (T a).1.length ≤ 512 → W p false ⟨#[]⟩ = (p + (T a).1.length, 0)) :
    ∀ c i a p last r, X.drop p = (kidsE T (fun _ => []) c i a).1 ++ r → p + (kidsE T (fun _ => []) c i a).1.length ≤ 512 → loopE W X false c p last = (p + (kidsE T (fun _ => []) c i a).1.length, 0)
  | 0, i, a, p, last, r, h, hl => by simp [kidsE, loopE]
  | c + 1, i, a, p, last, r, h, hl => by
    simp only [kidsE, List.nil_append, List.append_assoc] at h hl ⊢
    rw [List.length_append] at hl ⊢
    have h1 := hV a p _ h (by omega)
    have h2 := kids_array hV c (i + 1) (T a).2 (p + (T a).1.length) last r (drop_app h) (by omega)
    rw [loopE, if_neg (by simp), if_neg (by rw [h1]; simp), h1, h2, Nat.add_assoc]
theorem kids_map {T : Nat → List It × Nat} {X : List It} {K : Nat} {W : Nat → Bool → ByteArray → Nat × Int}
    (hV : ∀ a p r, X.drop p = (T a).1 ++ r → p + (T a).1.length ≤ 512 → W p false ⟨#[]⟩ = (p + (T a).1.length, 0))
    (hK : ∀ i p last, X[p]? = some (keyI K i) → p < 512 → (last = ⟨#[]⟩ ∨ lessB last (bytesI (keyI K i)) = true) → W p true last = (p + 1, 0)) :
    ∀ c i a p last r, i + c ≤ 3 → (last = ⟨#[]⟩ ∨ lessB last (bytesI (keyI K i)) = true) → X.drop p = (kidsE T (fun i => [keyI K i]) c i a).1 ++ r → p + (kidsE T (fun i => [keyI K i]) c i a).1.length ≤ 512 → loopE W X true c p last = (p + (kidsE T (fun i => [keyI K i]) c i a).1.length, 0)
  | 0, i, a, p, last, r, hi, hlast, h, hl => by simp [kidsE, loopE]
  | c + 1, i, a, p, last, r, hi, hlast, h, hl => by
    simp only [kidsE, List.cons_append, List.nil_append, List.append_assoc] at h hl ⊢
    rw [List.length_cons, List.length_append] at hl ⊢
    obtain ⟨hx, hd⟩ := at_drop h
    have h0 := hK i p last hx (by omega) hlast
    have h1 := hV a (p + 1) _ hd (by omega)
    have hla : lastAt X p = bytesI (keyI K i) := by rw [lastAt, hx]; rfl
    rw [loopE, if_pos rfl, if_neg (by rw [h0]; simp), h0, if_neg (by rw [h1]; simp), h1, hla]
    cases c with
    | zero => simp [kidsE, loopE]; omega
    | succ c =>
      have h2 := kids_map hV hK (c + 1) (i + 1) (T a).2 (p + 1 + (T a).1.length) (bytesI (keyI K i)) r (by omega) (.inr (key_less K i (by omega))) (drop_app hd) (by omega)
      rw [h2]
      congr 1
      omega

theorem walk_tree (l : List Int) (X : List It) : ∀ f dep a p g r, f + dep ≤ 8 → f + 2 ≤ g → X.drop p = (treeE l f a).1 ++ r → p + (treeE l f a).1.length ≤ 512 → walkE g X p dep false ⟨#[]⟩ = (p + (treeE l f a).1.length, 0) := by
  intro f
  have leafCase : ∀ f dep a p g r, f + dep ≤ 8 → f + 2 ≤ g → (treeE l f a).1 = [leafI (atI l a)] → X.drop p = (treeE l f a).1 ++ r → p + (treeE l f a).1.length ≤ 512 → walkE g X p dep false ⟨#[]⟩ = (p + (treeE l f a).1.length, 0) := by
    intro f dep a p g r hd hg he h hl
    obtain ⟨g', rfl⟩ : ∃ g', g = g' + 1 := ⟨g - 1, by omega⟩
    rw [he] at h hl ⊢
    obtain ⟨hx, _⟩ := at_drop h
    obtain ⟨h1, h2⟩ := leaf_good (atI l a)
    simp only [List.length_singleton] at hl ⊢
    rw [walkE_leaf hx (checkR_ok (by omega) h1 (fun h => by cases h) (by omega) (fun h => by cases h)) h2]
  induction f with
  | zero => intro dep a p g r hd hg h hl; exact leafCase 0 dep a p g r hd hg rfl h hl
  | succ f ih =>
    intro dep a p g r hd hg h hl
    cases hb : nestB (atI l a) a with
    | false => exact leafCase (f + 1) dep a p g r hd hg (by rw [treeE_leaf hb]) h hl
    | true =>
      rw [treeE_nest hb] at h hl ⊢
      dsimp only at h hl ⊢
      obtain ⟨g', rfl⟩ : ∃ g', g = g' + 1 := ⟨g - 1, by omega⟩
      obtain ⟨hx, hdr⟩ := at_drop h
      obtain ⟨h1, h2⟩ := head_good (atI l a)
      rw [List.length_cons] at hl ⊢
      have hV : ∀ a p r, X.drop p = (treeE l f a).1 ++ r → p + (treeE l f a).1.length ≤ 512 → walkE g' X p (dep + 1) false ⟨#[]⟩ = (p + (treeE l f a).1.length, 0) := fun a p r h hl => ih (dep + 1) a p g' r (by omega) (by omega) h hl
      have hn : (headI (atI l a)).n.toNat = atI l a / 8 % 4 := rfl
      rw [walkE_nest hx (checkR_ok (by omega) h1 (fun h => by cases h) (by omega) (fun h => by cases h)) h2, hn]
      by_cases h6 : atI l a % 8 = 6
      · have hk : ((headI (atI l a)).k == 6) = false := by simp [headI, h6]
        have hky : keysOf (atI l a) = fun _ => [] := by rw [keysOf, if_pos h6]
        rw [hk]
        rw [hky] at hdr hl ⊢
        rw [kids_array hV _ 0 (a + 1) (p + 1) ⟨#[]⟩ r hdr (by omega)]
        congr 1
        omega
      · have hk : ((headI (atI l a)).k == 6) = true := by simp [headI, h6]
        have hky : keysOf (atI l a) = fun i => [keyI (atI l a / 8) i] := by rw [keysOf, if_neg h6]
        rw [hk]
        rw [hky] at hdr hl ⊢
        rw [kids_map hV (fun i p last hx hp hlast => ?_) _ 0 (a + 1) (p + 1) ⟨#[]⟩ r (by omega) (.inl rfl) hdr (by omega)]
        · congr 1
          omega
        · obtain ⟨g2, rfl⟩ : ∃ g2, g' = g2 + 1 := ⟨g' - 1, by omega⟩
          obtain ⟨k1, k2, k3⟩ := key_good (atI l a / 8) i
          exact walkE_leaf hx (checkR_ok hp k1 (fun _ => k2) (by omega) (fun _ => by
            rcases hlast with rfl | hl
            · exact .inl none_empty
            · exact .inr hl)) k3

/-- a tree is valid -/
theorem tree_valid (l : List Int) : validE (treeL l) = 0 := by
  rw [valid_same _ (fun x hx => (treeL_fine l x hx).1)]
  have hlen := treeL_len l
  have h := walk_tree l (treeL l) 4 0 0 0 10 [] (by decide) (by decide) (by rw [List.drop_zero, List.append_nil]; rfl) (by rw [Nat.zero_add]; exact Nat.le_trans hlen (by decide))
  rw [Nat.zero_add] at h
  rw [validR, h, if_neg (by simp), if_neg]
  exact Nat.lt_irrefl _
end Go.Proofs.YtepinmeidjlmmaaDoor

/- What is encoded is read back: plain. -/
namespace Go.Proofs.YtepinmeidjlmmaaDoor
open Go.RowKit
set_option maxRecDepth 100000

theorem drop_cons {α : Type} {X r : List α} {x : α} {p : Nat} (h : X.drop p = x :: r) : X[p]? = some x ∧ X.drop (p + 1) = r := by
  refine ⟨?_, ?_⟩
  · have e : (X.drop p)[0]? = some x := by rw [h]; rfl
    rwa [List.getElem?_drop, Nat.add_zero] at e
  · have e : (X.drop p).drop 1 = r := by rw [h]; rfl
    rwa [List.drop_drop] at e
theorem drop_app' {α : Type} {X s r : List α} {p : Nat} (h : X.drop p = s ++ r) : X.drop (p + s.length) = r := by
  have e : (X.drop p).drop s.length = r := by rw [h]; simp
  rwa [List.drop_drop] at e
theorem drop_len {α : Type} {X s : List α} {p : Nat} (h : X.drop p = s) (hs : s ≠ []) : X.length = p + s.length := by
  have e := congrArg List.length h
  have : 0 < s.length := List.length_pos_iff.2 hs
  rw [List.length_drop] at e
  omega

theorem beBytes_get {n : Int} {s k : Nat} (h : k < s) : (beBytes n s s).getD k 0 = beByte n s k := by
  simp [beBytes, List.getD, h]
theorem beTo_be {n : Int} {s : Nat} (h0 : 0 ≤ n) (h1 : n < 256 ^ s) : ∀ k, k ≤ s → beTo (beBytes n s s) k = n / 256 ^ (s - k)
  | 0, _ => by
    rw [Nat.sub_zero, Int.ediv_eq_zero_of_lt h0 h1]
    simp [beTo]
  | k + 1, h => by
    have ih := beTo_be h0 h1 k (by omega)
    rw [beTo_succ (by rw [beBytes_len]; omega), ih, beBytes_get (by omega)]
    unfold beByte
    rw [show (2 : Int) ^ (8 * (s - 1 - k)) = 256 ^ (s - 1 - k) by rw [Int.pow_mul]; rfl, show s - k = (s - 1 - k) + 1 by omega, show s - (k + 1) = s - 1 - k by omega, Int.pow_succ, ← Int.ediv_ediv_of_nonneg (Int.pow_nonneg (by decide))]
    omega
theorem beTo_all {n : Int} {s : Nat} (h0 : 0 ≤ n) (h1 : n < 256 ^ s) : beTo (beBytes n s s) s = n := by
  rw [beTo_be h0 h1 s (Nat.le_refl _), Nat.sub_self]
  simp

/-- a head, whole -/
theorem head_one {zs r : List Int} {N a : Nat} {m n : Int} (hl : zs.length = N) (hm0 : 0 ≤ m) (hm : m ≤ 5) (hn0 : 0 ≤ n) (hn : n < 24) (h : zs.drop a = (m * 32 + n) :: r) : headE zs N a = (1 + m, n, 0, a + 1) := by
  have hN := drop_len h (by simp)
  rw [List.length_cons] at hN
  have hx : zs.getD a 0 = m * 32 + n := by rw [List.getD, (drop_cons h).1]; rfl
  unfold headE
  rw [hx, if_neg (by omega), if_neg (by omega), if_neg (by omega), if_pos (by omega)]
  rw [show (m * 32 + n) / 32 = m by omega, show (m * 32 + n) % 32 = n by omega]
theorem head_lit {zs r : List Int} {N a : Nat} {x : Int} (hl : zs.length = N) (hx3 : x = 244 ∨ x = 245 ∨ x = 246) (h : zs.drop a = x :: r) : headE zs N a = (if x = 246 then 8 else 7, if x = 245 then 1 else 0, 0, a + 1) := by
  have hN := drop_len h (by simp)
  rw [List.length_cons] at hN
  have hx : zs.getD a 0 = x := by rw [List.getD, (drop_cons h).1]; rfl
  unfold headE
  rw [hx, if_neg (by omega), if_pos hx3]
theorem head_many {zs r : List Int} {N a : Nat} {m n : Int} (j : Nat) (hl : zs.length = N) (hm0 : 0 ≤ m) (hm : m ≤ 5) (hj : j < 4) (hn0 : 0 ≤ n) (hn : n < 256 ^ 2 ^ j) (ha : argSz n = ((2 ^ j : Nat) : Int))
    (h : zs.drop a = (m * 32 + (24 + (j : Int))) :: (beBytes n (2 ^ j) (2 ^ j) ++ r)) : headE zs N a = (1 + m, n, 0, a + 1 + 2 ^ j) := by
  have hN := drop_len h (by simp)
  rw [List.length_cons, List.length_append, beBytes_len] at hN
  obtain ⟨h1, h2⟩ := drop_cons h
  have hx : zs.getD a 0 = m * 32 + (24 + (j : Int)) := by rw [List.getD, h1]; rfl
  have hw : widN zs a (2 ^ j) = n := by
    unfold widN
    rw [h2, List.take_append_of_le_length (by rw [beBytes_len]; exact Nat.le_refl _), List.take_of_length_le (by rw [beBytes_len]; exact Nat.le_refl _)]
    exact beTo_all hn0 hn
  have hjj : ((m * 32 + (24 + (j : Int))) % 32 - 24).toNat = j := by omega
  have hlt : ¬ N < a + 1 + 2 ^ j := by
    generalize 2 ^ j = S at hN ⊢
    omega
  have hNa : ¬ N ≤ a := by
    generalize 2 ^ j = S at hN
    omega
  unfold headE
  rw [hx, if_neg hNa, if_neg (by omega), if_neg (by omega), if_neg (by omega), hjj, if_neg hlt, hw, if_pos ha]
  rw [show (m * 32 + (24 + (j : Int))) / 32 = m by omega]
theorem head_full {zs r : List Int} {N a : Nat} {m n : Int} (hl : zs.length = N) (hm0 : 0 ≤ m) (hm : m ≤ 5) (hn0 : 0 ≤ n) (hn : n < 18446744073709551616) (h : zs.drop a = encHead m n ++ r) : headE zs N a = (1 + m, n, 0, a + (encHead m n).length) := by
  by_cases h1 : n < 24
  · rw [encHead0 h1] at h ⊢
    exact head_one hl hm0 hm hn0 h1 h
  by_cases h2 : n < 256
  · rw [encHead1 (by omega) h2] at h ⊢
    have := head_many (r := r) 0 hl hm0 hm (by decide) hn0 (show n < 256 ^ 2 ^ 0 from h2) (by rw [argSz, if_neg h1, if_pos h2]; rfl) h
    rw [this, List.length_cons, beBytes_len]
  by_cases h3 : n < 65536
  · rw [encHead2 (by omega) h3] at h ⊢
    have := head_many (r := r) 1 hl hm0 hm (by decide) hn0 (show n < 256 ^ 2 ^ 1 from h3) (by rw [argSz, if_neg h1, if_neg h2, if_pos h3]; rfl) h
    rw [this, List.length_cons, beBytes_len]
  by_cases h4 : n < 4294967296
  · rw [encHead4 (by omega) h4] at h ⊢
    have := head_many (r := r) 2 hl hm0 hm (by decide) hn0 (show n < 256 ^ 2 ^ 2 from h4) (by rw [argSz, if_neg h1, if_neg h2, if_neg h3, if_pos h4]; rfl) h
    rw [this, List.length_cons, beBytes_len]
  · rw [encHead8 (by omega)] at h ⊢
    have := head_many (r := r) 3 hl hm0 hm (by decide) hn0 (show n < 256 ^ 2 ^ 3 from hn) (by rw [argSz, if_neg h1, if_neg h2, if_neg h3, if_neg h4]; rfl) h
    rw [this, List.length_cons, beBytes_len]

/-- a head, cut -/
theorem head_none {zs : List Int} {N a : Nat} (hN : N ≤ a) : headE zs N a = (0, 0, 1, a) := by unfold headE; rw [if_pos hN]
theorem head_cut1 {zs r : List Int} {N a : Nat} {m : Int} (j : Nat) (hl : zs.length = N) (hm0 : 0 ≤ m) (hm : m ≤ 5) (hj : j < 4) (hr : r.length < 2 ^ j) (h : zs.drop a = (m * 32 + (24 + (j : Int))) :: r) : headE zs N a = (0, 0, 1, a) := by
  have hN := drop_len h (by simp)
  rw [List.length_cons] at hN
  have hx : zs.getD a 0 = m * 32 + (24 + (j : Int)) := by rw [List.getD, (drop_cons h).1]; rfl
  have hjj : ((m * 32 + (24 + (j : Int))) % 32 - 24).toNat = j := by omega
  unfold headE
  rw [hx, if_neg (by omega), if_neg (by omega), if_neg (by omega), if_neg (by omega), hjj, if_pos (by omega)]
theorem head_cut {zs : List Int} {N a i : Nat} {m n : Int} (hl : zs.length = N) (hm0 : 0 ≤ m) (hm : m ≤ 5) (h : zs.drop a = (encHead m n).take i) (hi : i < (encHead m n).length) : headE zs N a = (0, 0, 1, a) := by
  cases i with
  | zero =>
    have e := congrArg List.length h
    rw [List.length_drop, List.take_zero, List.length_nil] at e
    exact head_none (by omega)
  | succ i =>
    have hcut : ∀ j : Nat, j < 4 → encHead m n = (m * 32 + (24 + (j : Int))) :: beBytes n (2 ^ j) (2 ^ j) → headE zs N a = (0, 0, 1, a) := by
      intro j hj he
      rw [he] at h hi
      rw [List.take_succ_cons] at h
      rw [List.length_cons, beBytes_len] at hi
      exact head_cut1 j hl hm0 hm hj (by rw [List.length_take, beBytes_len]; omega) h
    by_cases h1 : n < 24
    · rw [encHead0 h1] at hi; simp at hi
    by_cases h2 : n < 256
    · exact hcut 0 (by decide) (encHead1 (by omega) h2)
    by_cases h3 : n < 65536
    · exact hcut 1 (by decide) (encHead2 (by omega) h3)
    by_cases h4 : n < 4294967296
    · exact hcut 2 (by decide) (encHead4 (by omega) h4)
    · exact hcut 3 (by decide) (encHead8 (by omega))
end Go.Proofs.YtepinmeidjlmmaaDoor

/- What is encoded is read back, item by item: plain. -/
namespace Go.Proofs.YtepinmeidjlmmaaDoor
open Go.RowKit
set_option maxRecDepth 100000

theorem check_parts {c : Nat} {s : List Lv} {k n : Int} {d : ByteArray} (h : checkE c s k n d = 0) : compB c s = false ∧ placeE c s k = 0 ∧ shapeB k n d = true ∧ tooLargeB k (argN k n d) = false ∧ contentE s k n d = 0 := by
  have hA : compB c s = false := by
    cases hA : compB c s with
    | false => rfl
    | true => rw [check2 hA] at h; cases h
  have hP : placeE c s k = 0 := by
    by_cases hP : placeE c s k = 0
    · exact hP
    · rw [checkP hA hP] at h; exact h
  have hS : shapeB k n d = true := by
    cases hS : shapeB k n d with
    | true => rfl
    | false => rw [check4 hA hP hS] at h; cases h
  have hL : tooLargeB k (argN k n d) = false := by
    cases hL : tooLargeB k (argN k n d) with
    | false => rfl
    | true => rw [check8 hA hP hS hL] at h; cases h
  exact ⟨hA, hP, hS, hL, by rw [checkC hA hP hS hL] at h; exact h⟩
theorem empty_is {d : ByteArray} (h : d.toList.isEmpty = true) : d = ⟨#[]⟩ := by
  have := size_of_empty h
  obtain ⟨a⟩ := d
  congr 1
  exact Array.eq_empty_of_size_eq_zero this
theorem str_dataI (d : ByteArray) : strOfNums (dataI d) = d := by
  obtain ⟨a⟩ := d
  unfold strOfNums dataI
  congr 1
  rw [List.map_map]
  have e : ∀ l : List UInt8, l.map ((fun n : Int => UInt8.ofNat n.toNat) ∘ fun b : UInt8 => ((b.toNat : Nat) : Int)) = l := by
    intro l
    refine (List.map_congr_left (g := id) fun z _ => ?_).trans (List.map_id _)
    simp
  rw [e]
/-- the three forms of an item -/
theorem forms {k n : Int} {d : ByteArray} (h1 : 1 ≤ k) (h8 : k ≤ 8) (hS : shapeB k n d = true) :
    (hasDataB k = true ∧ n = 0 ∧ encItem k n d = encHead (k - 1) d.size ++ dataI d) ∨
    (hasDataB k = false ∧ d = ⟨#[]⟩ ∧ (k ≤ 6 ∧ encItem k n d = encHead (k - 1) n ∨ k = 7 ∧ n ≤ 1 ∧ encItem k n d = [244 + n] ∨ k = 8 ∧ n = 0 ∧ encItem k n d = [246])) := by
  cases hD : hasDataB k with
  | true =>
    left
    have h34 : k = 3 ∨ k = 4 := by unfold hasDataB at hD; simpa using hD
    rw [shape_sw (by rw [hD]; simp), if_pos (by omega)] at hS
    have hn : n = 0 := by simpa using hS
    exact ⟨rfl, hn, by rw [encItemP (by omega), argN, if_pos hD]⟩
  | false =>
    right
    have he : d.toList.isEmpty = true := by
      cases he : d.toList.isEmpty with
      | true => rfl
      | false => rw [shape_bad he hD] at hS; cases hS
    have hd := empty_is he
    subst hd
    refine ⟨rfl, rfl, ?_⟩
    by_cases h7 : k = 7
    · subst h7
      rw [shape_sw (by rw [he]; simp)] at hS
      right; left
      exact ⟨rfl, by simpa using hS, encItem7 _ _⟩
    by_cases h8' : k = 8
    · subst h8'
      rw [shape_sw (by rw [he]; simp)] at hS
      right; right
      exact ⟨rfl, by simpa using hS, encItem8 _ _⟩
    · left
      refine ⟨by omega, ?_⟩
      rw [encItemP (by omega), argN, if_neg (by rw [hD]; simp)]
      simp [dataI]

theorem item_full {zs r : List Int} {N a c : Nat} {s : List Lv} {x : It} (hl : zs.length = N) (hc : checkE c s x.k x.n x.d = 0) (hn0 : 0 ≤ x.n) (hn : x.n < 18446744073709551616) (h : zs.drop a = encItem x.k x.n x.d ++ r) :
    itemE zs N c s a = (0, x, a + (encItem x.k x.n x.d).length) := by
  obtain ⟨_, hP, hS, hL, hE⟩ := check_parts hc
  obtain ⟨_, h1, h8, _, hd, _⟩ := check_zero hc
  obtain ⟨k, n, d⟩ := x
  dsimp only at *
  unfold itemE
  rcases forms h1 h8 hS with ⟨hD, rfl, he⟩ | ⟨hD, rfl, hrest⟩
  · rw [he] at h ⊢
    have h34 : k = 3 ∨ k = 4 := by unfold hasDataB at hD; simpa using hD
    rw [List.append_assoc] at h
    have hh := head_full hl (show (0 : Int) ≤ k - 1 by omega) (by omega) (by omega) (by omega) h
    have hdr := drop_app' h
    have hlen : a + (encHead (k - 1) d.size).length + d.size ≤ N := by
      have e := congrArg List.length h
      rw [List.length_drop, List.length_append, List.length_append, dataI_len] at e
      have : 0 < (encHead (k - 1) d.size).length := by
        by_cases h0 : (d.size : Int) < 24
        · rw [encHead0 h0]; simp
        · unfold encHead; rw [if_neg h0]; repeat' split
          all_goals simp
      omega
    rw [argN, if_pos hD] at hL
    have htk : (zs.drop (a + (encHead (k - 1) d.size).length)).take d.size = dataI d := by
      rw [hdr, List.take_append_of_le_length (by rw [dataI_len]; exact Nat.le_refl _), List.take_of_length_le (by rw [dataI_len]; exact Nat.le_refl _)]
    rw [hh]
    unfold bodyE
    dsimp only
    rw [show 1 + (k - 1) = k by omega, if_neg (by simp), if_neg (by rw [hP]; simp), if_neg (by rw [hL]; simp), if_pos hD, if_neg (by omega), Int.toNat_natCast, htk, str_dataI, if_neg (by rw [hE]; simp), List.length_append, dataI_len, Nat.add_assoc]
  · rw [argN, if_neg (by rw [hD]; simp)] at hL
    rcases hrest with ⟨h6, he⟩ | ⟨rfl, h7, he⟩ | ⟨rfl, rfl, he⟩
    · rw [he] at h ⊢
      rw [head_full hl (show (0 : Int) ≤ k - 1 by omega) (by omega) hn0 hn h]
      unfold bodyE
      dsimp only
      rw [show 1 + (k - 1) = k by omega, if_neg (by simp), if_neg (by rw [hP]; simp), if_neg (by rw [hL]; simp), if_neg (by rw [hD]; simp), if_neg (by rw [hE]; simp)]
    · rw [he] at h ⊢
      rw [head_lit hl (by omega) h]
      have e1 : (if 244 + n = 246 then (8 : Int) else 7) = 7 := by rw [if_neg (by omega)]
      have e2 : (if 244 + n = 245 then (1 : Int) else 0) = n := by
        by_cases hq : 244 + n = 245
        · rw [if_pos hq]; omega
        · rw [if_neg hq]; omega
      rw [e1, e2]
      unfold bodyE
      dsimp only
      rw [if_neg (by simp), if_neg (by rw [hP]; simp), if_neg (by rw [hL]; simp), if_neg (by rw [hD]; simp), if_neg (by rw [hE]; simp)]
      rfl
    · rw [he] at h ⊢
      rw [head_lit hl (by omega) h]
      unfold bodyE
      dsimp only
      rw [if_pos rfl, if_neg (show ¬ (246 : Int) = 245 by decide), if_neg (by simp), if_neg (by rw [hP]; simp), if_neg (by rw [hL]; simp), if_neg (by rw [hD]; simp), if_neg (by rw [hE]; simp)]
      rfl

theorem item_cut {zs : List Int} {N a c i : Nat} {s : List Lv} {x : It} (hl : zs.length = N) (hc : checkE c s x.k x.n x.d = 0) (h : zs.drop a = (encItem x.k x.n x.d).take i) (hi : i < (encItem x.k x.n x.d).length) :
    (itemE zs N c s a).1 = 1 := by
  obtain ⟨_, hP, hS, hL, hE⟩ := check_parts hc
  obtain ⟨_, h1, h8, _, hd, _⟩ := check_zero hc
  obtain ⟨k, n, d⟩ := x
  dsimp only at *
  have done : headE zs N a = (0, 0, 1, a) → (itemE zs N c s a).1 = 1 := by
    intro hh
    unfold itemE bodyE
    rw [hh]
    rfl
  have hnone : i = 0 → headE zs N a = (0, 0, 1, a) := by
    rintro rfl
    have e := congrArg List.length h
    rw [List.length_drop, List.take_zero, List.length_nil] at e
    exact head_none (by omega)
  rcases forms h1 h8 hS with ⟨hD, rfl, he⟩ | ⟨hD, rfl, hrest⟩
  · rw [he] at h hi
    have h34 : k = 3 ∨ k = 4 := by unfold hasDataB at hD; simpa using hD
    by_cases hlt : i < (encHead (k - 1) d.size).length
    · rw [List.take_append_of_le_length (by omega)] at h
      exact done (head_cut hl (by omega) (by omega) h hlt)
    · rw [List.take_append, List.take_of_length_le (by omega)] at h
      have hh := head_full hl (show (0 : Int) ≤ k - 1 by omega) (by omega) (by omega) (by omega) h
      rw [argN, if_pos hD] at hL
      have e := congrArg List.length h
      rw [List.length_drop, List.length_append, List.length_take, dataI_len] at e
      rw [List.length_append, dataI_len] at hi
      have hpos : 0 < (encHead (k - 1) d.size).length := by
        by_cases h0 : (d.size : Int) < 24
        · rw [encHead0 h0]; simp
        · unfold encHead; rw [if_neg h0]; repeat' split
          all_goals simp
      unfold itemE bodyE
      rw [hh]
      dsimp only
      rw [show 1 + (k - 1) = k by omega, if_neg (by simp), if_neg (by rw [hP]; simp), if_neg (by rw [hL]; simp), if_pos hD, if_pos (by omega)]
  · rcases hrest with ⟨h6, he⟩ | ⟨rfl, h7, he⟩ | ⟨rfl, rfl, he⟩
    · rw [he] at h hi
      exact done (head_cut hl (by omega) (by omega) h hi)
    · rw [he] at hi; simp at hi; exact done (hnone hi)
    · rw [he] at hi; simp at hi; exact done (hnone hi)

theorem decGo_full {zs r : List Int} {N : Nat} (hl : zs.length = N) : ∀ (ys : List It) (f c : Nat) (s : List Lv) (a : Nat) (xs : List It), (∀ x ∈ ys, 0 ≤ x.n ∧ x.n < 18446744073709551616) → validGo c s ys = 0 → ys.length < f → zs.drop a = encAll ys ++ r →
    decGo zs N f c s a xs = (0, xs ++ ys, a + (encAll ys).length)
  | [], f, c, s, a, xs, hn, hv, hf, h => by
    obtain ⟨f, rfl⟩ : ∃ g, f = g + 1 := ⟨f - 1, by simp at hf; omega⟩
    rw [validGo_nil] at hv
    have hc : compB c s = true := by
      cases hc : compB c s with
      | true => rfl
      | false => rw [hc] at hv; simp at hv
    rw [decGo_done hc]
    simp [encAll]
  | x :: ys, f, c, s, a, xs, hn, hv, hf, h => by
    obtain ⟨f, rfl⟩ : ∃ g, f = g + 1 := ⟨f - 1, by simp at hf; omega⟩
    have hck : checkE c s x.k x.n x.d = 0 := by
      by_cases hck : checkE c s x.k x.n x.d = 0
      · exact hck
      · rw [validGo_no hck] at hv; exact absurd hv hck
    rw [validGo_yes hck] at hv
    have e : encAll (x :: ys) = encItem x.k x.n x.d ++ encAll ys := rfl
    rw [e, List.append_assoc] at h
    have hx := hn x (by simp)
    rw [decGo_next (check_parts hck).1 (item_full hl hck hx.1 hx.2 h), decGo_full hl ys f _ _ _ _ (fun y hy => hn y (by simp [hy])) hv (by simp at hf; omega) (drop_app' h), e, List.length_append, List.append_assoc, Nat.add_assoc]
    rfl
theorem decGo_cut {zs : List Int} {N : Nat} (hl : zs.length = N) : ∀ (ys : List It) (f c : Nat) (s : List Lv) (a i : Nat) (xs : List It), (∀ x ∈ ys, 0 ≤ x.n ∧ x.n < 18446744073709551616) → validGo c s ys = 0 → ys.length < f → zs.drop a = (encAll ys).take i → i < (encAll ys).length →
    (decGo zs N f c s a xs).1 = 1
  | [], f, c, s, a, i, xs, hn, hv, hf, h, hi => by simp [encAll] at hi
  | x :: ys, f, c, s, a, i, xs, hn, hv, hf, h, hi => by
    obtain ⟨f, rfl⟩ : ∃ g, f = g + 1 := ⟨f - 1, by simp at hf; omega⟩
    have hck : checkE c s x.k x.n x.d = 0 := by
      by_cases hck : checkE c s x.k x.n x.d = 0
      · exact hck
      · rw [validGo_no hck] at hv; exact absurd hv hck
    rw [validGo_yes hck] at hv
    have e : encAll (x :: ys) = encItem x.k x.n x.d ++ encAll ys := rfl
    have hx := hn x (by simp)
    rw [e] at h hi
    by_cases hlt : i < (encItem x.k x.n x.d).length
    · rw [List.take_append_of_le_length (by omega)] at h
      have h1 := item_cut hl hck h hlt
      obtain ⟨er, y, a3, hi3⟩ : ∃ er y a3, itemE zs N c s a = (er, y, a3) := ⟨_, _, _, rfl⟩
      rw [hi3] at h1
      dsimp only at h1
      subst h1
      rw [decGo_bad (check_parts hck).1 hi3 (by decide)]
    · rw [List.take_append, List.take_of_length_le (by omega)] at h
      rw [List.length_append] at hi
      rw [decGo_next (check_parts hck).1 (item_full hl hck hx.1 hx.2 h)]
      exact decGo_cut hl ys f _ _ _ _ _ (fun y hy => hn y (by simp [hy])) hv (by simp at hf; omega) (drop_app' h) (by omega)

/-- what is encoded is read back, whatever follows -/
theorem decE_full {l : List It} {r : List Int} {N : Nat} (hn : ∀ x ∈ l, 0 ≤ x.n ∧ x.n < 18446744073709551616) (hv : validE l = 0) (hlen : l.length < 600) (hl : (encAll l ++ r).length = N) : decE (encAll l ++ r) N = (0, l, (encAll l).length) := by
  have h := decGo_full (r := r) hl l 600 0 [] 0 [] hn hv hlen rfl
  rw [Nat.zero_add, List.nil_append] at h
  exact h
/-- a proper prefix is too short -/
theorem decE_cut {l : List It} {i : Nat} (hn : ∀ x ∈ l, 0 ≤ x.n ∧ x.n < 18446744073709551616) (hv : validE l = 0) (hlen : l.length < 600) (hi : i < (encAll l).length) : (decE ((encAll l).take i) i).1 = 1 := by
  exact decGo_cut (by rw [List.length_take]; omega) l 600 0 [] 0 i [] hn hv hlen rfl hi
end Go.Proofs.YtepinmeidjlmmaaDoor

/- The bytes of a tree. -/
namespace Go.Proofs.YtepinmeidjlmmaaDoor
open Go.RowKit
set_option maxRecDepth 100000

/-- what every item of a tree is like, for its encoding -/
structure Whole (x : It) : Prop where
  good : Good x
  pos : 0 ≤ x.n
  u64 : x.n < 18446744073709551616
  small : x.d.size ≤ 100
theorem leaf_whole (n : Nat) : Whole (leafI n) := by
  refine ⟨(leaf_good n).1, (leaf_fine n).1, ?_, (leaf_fine n).2⟩
  unfold leafI shlW
  repeat' split
  all_goals dsimp only
  all_goals omega
theorem key_whole (k i : Nat) (hi : i ≤ 3) : Whole (keyI k i) := by
  refine ⟨(key_good k i).1, (key_fine k i).1, ?_, (key_fine k i).2⟩
  unfold keyI
  split
  · dsimp only; decide
  · dsimp only; omega
theorem kids_whole {T : Nat → List It × Nat} {ky : Nat → List It} (hT : ∀ a, ∀ x ∈ (T a).1, Whole x) (hk : ∀ i, i ≤ 3 → ∀ x ∈ ky i, Whole x) :
    ∀ c i a, i + c ≤ 3 → ∀ x ∈ (kidsE T ky c i a).1, Whole x
  | 0, i, a, hi, x, h => by simp [kidsE] at h
  | c + 1, i, a, hi, x, h => by
    simp only [kidsE, List.mem_append] at h
    rcases h with (h | h) | h
    · exact hk i (by omega) x h
    · exact hT a x h
    · exact kids_whole hT hk c (i + 1) _ (by omega) x h
theorem keysOf_whole (n : Nat) : ∀ i, i ≤ 3 → ∀ x ∈ keysOf n i, Whole x := by
  intro i hi x h
  unfold keysOf at h
  split at h
  · simp at h
  · simp at h; subst h; exact key_whole _ _ hi
theorem head_whole (n : Nat) : Whole (headI n) := by
  refine ⟨(head_good n).1, Int.natCast_nonneg _, ?_, none_small⟩
  show ((n / 8 % 4 : Nat) : Int) < _
  omega
theorem tree_whole (l : List Int) : ∀ f a, ∀ x ∈ (treeE l f a).1, Whole x
  | 0, a, x, h => by simp [treeE] at h; subst h; exact leaf_whole _
  | f + 1, a, x, h => by
    by_cases hn : nestB (atI l a) a = true
    · rw [treeE_nest hn] at h
      simp only [List.mem_cons] at h
      rcases h with h | h
      · subst h; exact head_whole _
      · exact kids_whole (tree_whole l f) (keysOf_whole _) _ _ _ (by omega) x h
    · have h' : nestB (atI l a) a = false := by simpa using hn
      rw [treeE_leaf h'] at h
      simp at h; subst h; exact leaf_whole _
theorem treeL_whole (l : List Int) : ∀ x ∈ treeL l, Whole x := tree_whole l 4 0

theorem encHead_rng {m n : Int} (hm0 : 0 ≤ m) (hm : m ≤ 5) (hn0 : 0 ≤ n) : ∀ z ∈ encHead m n, 0 ≤ z ∧ z ≤ 255 := by
  have hb : ∀ s, ∀ z ∈ beBytes n s s, 0 ≤ z ∧ z ≤ 255 := by
    intro s z hz
    unfold beBytes at hz
    obtain ⟨i, _, rfl⟩ := List.mem_map.1 hz
    unfold beByte
    omega
  unfold encHead
  intro z hz
  repeat' split at hz
  · simp at hz; omega
  all_goals
    rcases List.mem_cons.1 hz with rfl | hz
    · omega
    · exact hb _ z hz
theorem dataI_rng (d : ByteArray) : ∀ z ∈ dataI d, 0 ≤ z ∧ z ≤ 255 := by
  intro z hz
  unfold dataI at hz
  obtain ⟨b, _, rfl⟩ := List.mem_map.1 hz
  have := b.toNat_lt
  omega
theorem encItem_rng {x : It} (h : Whole x) : (∀ z ∈ encItem x.k x.n x.d, 0 ≤ z ∧ z ≤ 255) ∧ 1 ≤ (encItem x.k x.n x.d).length ∧ (encItem x.k x.n x.d).length ≤ 109 := by
  have h1 := h.good.k1
  have h8 := h.good.k8
  have hp := h.pos
  have hs := h.small
  have hpos : ∀ m n, 1 ≤ (encHead m n).length := by
    intro m n
    unfold encHead
    repeat' split
    all_goals simp
  rcases forms h1 h8 h.good.sh with ⟨hD, hn, he⟩ | ⟨_, hd, hrest⟩
  · rw [he]
    have h34 : x.k = 3 ∨ x.k = 4 := by unfold hasDataB at hD; simpa using hD
    refine ⟨fun z hz => ?_, ?_, ?_⟩
    · rcases List.mem_append.1 hz with hz | hz
      · exact encHead_rng (by omega) (by omega) (by omega) z hz
      · exact dataI_rng _ z hz
    · have := hpos (x.k - 1) x.d.size
      rw [List.length_append]; omega
    · have := encHead_len (x.k - 1) x.d.size
      rw [List.length_append, dataI_len]; omega
  · rcases hrest with ⟨h6, he⟩ | ⟨_, h7, he⟩ | ⟨_, _, he⟩
    · rw [he]
      have := encHead_len (x.k - 1) x.n
      exact ⟨encHead_rng (by omega) (by omega) hp, hpos _ _, by omega⟩
    · rw [he]
      refine ⟨fun z hz => ?_, by simp, by simp⟩
      simp at hz; omega
    · rw [he]
      refine ⟨fun z hz => ?_, by simp, by simp⟩
      simp at hz; omega
theorem encAll_rng : ∀ (l : List It), (∀ x ∈ l, Whole x) → (∀ z ∈ encAll l, 0 ≤ z ∧ z ≤ 255) ∧ l.length ≤ (encAll l).length ∧ (encAll l).length ≤ l.length * 109
  | [], _ => by simp [encAll]
  | x :: l, h => by
    obtain ⟨h1, h2, h3⟩ := encItem_rng (h x (by simp))
    obtain ⟨g1, g2, g3⟩ := encAll_rng l fun y hy => h y (by simp [hy])
    have e : encAll (x :: l) = encItem x.k x.n x.d ++ encAll l := rfl
    rw [e, List.length_append, List.length_cons]
    refine ⟨fun z hz => ?_, by omega, by omega⟩
    rcases List.mem_append.1 hz with hz | hz
    · exact h1 z hz
    · exact g1 z hz

/-- the bytes of a tree -/
def treeB (l : List Int) : List Int := encAll (treeL l)
theorem treeB_rng (l : List Int) : ∀ z ∈ treeB l, 0 ≤ z ∧ z ≤ 255 := (encAll_rng _ (treeL_whole l)).1
theorem treeB_len (l : List Int) : 1 ≤ (treeB l).length ∧ (treeB l).length ≤ 26269 := by
  obtain ⟨_, h2, h3⟩ := encAll_rng _ (treeL_whole l)
  have h4 := treeL_len l
  have h5 : 0 < (treeL l).length := List.length_pos_iff.2 (treeL_ne l)
  unfold treeB
  omega
theorem treeB_back (l : List Int) (r : List Int) {N : Nat} (h : (treeB l ++ r).length = N) : decE (treeB l ++ r) N = (0, treeL l, (treeB l).length) :=
  decE_full (fun x hx => ⟨(treeL_whole l x hx).pos, (treeL_whole l x hx).u64⟩) (tree_valid l) (by have := treeL_len l; omega) h
theorem treeB_cut (l : List Int) {i : Nat} (h : i < (treeB l).length) : (decE ((treeB l).take i) i).1 = 1 :=
  decE_cut (fun x hx => ⟨(treeL_whole l x hx).pos, (treeL_whole l x hx).u64⟩) (tree_valid l) (by have := treeL_len l; omega) h

theorem own_row_bys {w : World} {base n : Nat} {v : Value} {zs : List Int} (h : w.ownsRow base 5 1 v n (bv zs)) (hr : ∀ z ∈ zs, 0 ≤ z ∧ z ≤ 255) : ∃ A cap, v = .slice A n cap ∧ Bys w A n zs ∧ n ≤ cap ∧ cap ≤ 9223372036854775807 := by
  obtain ⟨A, cap, hv, hb⟩ := own_bys h hr
  refine ⟨A, cap, hv, hb, ?_⟩
  rcases h.2 with ⟨hv', h0⟩ | ⟨g, cap', cur, hv', _, _, h1, h2, _⟩
  · rw [hv] at hv'; cases hv'; omega
  · rw [hv] at hv'; cases hv'; unfold maxLen at h2; omega
theorem tree_items {w : World} {base g c : Nat} {l : List Int} (h : w.ownsRow base 58 3 (.slice (some ⟨g, 0, none⟩) (treeL l).length c) (treeL l).length (itCells (treeL l))) : ItemsAt w w.heap.size (.slice (some ⟨g, 0, none⟩) (treeL l).length c) (treeL l) :=
  itemsAt_own h (fun x hx => ⟨(treeL_fine l x hx).1, by have := (treeL_fine l x hx).2; unfold maxLen; omega⟩) (by have := treeL_len l; omega)
end Go.Proofs.YtepinmeidjlmmaaDoor

/- The law CborCuts, walked. -/
namespace Go.Proofs.YtepinmeidjlmmaaDoor
open Go.RowKit
set_option maxRecDepth 100000

set_option maxHeartbeats 2000000 in
theorem cuts_law (A : Option Addr) (n cap : Nat) (l : List Int) (w : World) (h : Ints w A n l) (hn : n ≤ 9223372036854775807) (ht : Tabs w) :
    Calls Tryd.prog 8 #[.slice A n cap] w fun e w' => e = .returned (.bool true) ∧ Below w.heap.size w w' := by
  have HC := Lib.hid (Tree_any A n cap l w h hn)
  have HT := Lib.hid ht
  obtain ⟨N, hN⟩ : ∃ N, (treeB l).length = N := ⟨_, rfl⟩
  have hb := treeB_len l
  rw [hN] at hb
  obtain ⟨hb1, hb2⟩ := hb
  have HCUT := Lib.hid (fun i (hi : i < N) => treeB_cut l (i := i) (by rw [hN]; exact hi))
  have HR := Lib.hid (treeB_rng l)
  have HN := Lib.hid hN
  clear h ht hN
  go_enter Tryd.func8, Tryd.ntmps8
  go_wp2_with (go_at_call 20; refine HC.out.mono ?_; rintro e w1 ⟨g, c, rfl, ho, hb⟩)
  have HI := Lib.hid (tree_items ho)
  have HB1 := Lib.hid hb
  clear ho hb
  refine (encode_good (treeL l) _ w1 HI.out (HT.out.later HB1.out) (tree_valid l)).mono ?_
  rintro e w2 ⟨v2, rfl, ho2, hb2'⟩
  rw [show (encAll (treeL l)).length = N from HN.out] at ho2
  obtain ⟨A2, c2, hv2, hby, hle, hcm⟩ := own_row_bys ho2 HR.out
  subst hv2
  have HBY := Lib.hid hby
  have HB2 := Lib.hid (HB1.out.trans (hb2'.mono HB1.out.size))
  have hs2 := HB2.out.size
  clear ho2 hb2' hby
  have hN0 : ((N : Int) == 0) = false := by rw [beq_eq_false_iff_ne]; omega
  go_wp2_with fail
  go_loopw [2, 5] (fun _ i wr => ∃ j : Nat, j ≤ N ∧ i = .int .i64 j ∧ Below w2.heap.size w2 wr) (fun _ i _ => N - (intOf i).toNat)
  case atStart => exact ⟨0, by omega, rfl, Below.refl _ _⟩
  case round =>
    obtain ⟨j, hj, rfl, hbw⟩ := hrel
    have HBW := Lib.hid hbw
    have hsz := hbw.size
    clear hbw
    by_cases hlt : j < N
    · have hlt2 : (j : Int) < (N : Int) := by omega
      have hlt3 : (j : Int) ≤ (c2 : Int) := by omega
      have hD := decode_any A2 j c2 ((treeB l).take j) wr ((HBY.out.below HBW.out).take j (by omega)) (by omega) hcm (by omega) (HT.out.later (HB2.out.trans (HBW.out.mono hs2)))
      have hcut := HCUT.out j hlt
      unfold DecP at hD
      generalize decE ((treeB l).take j) j = r at hD hcut
      obtain ⟨er, xs, u⟩ := r
      dsimp only at hD hcut
      subst hcut
      have HD := Lib.hid hD
      clear hD
      go_wp2_with (go_at_call 22; refine HD.out.mono ?_; rintro e w3 ⟨v3, rfl, _, hb3, _, _, _⟩)
      go_roundw
      case rel => exact ⟨j + 1, by omega, by go_num, HBW.out.trans (hb3.mono hsz)⟩
      case measure => simp [intOf]; omega
    · obtain rfl : N = j := by omega
      have hlt2 : ¬ (N : Int) < (N : Int) := by omega
      go_wp2_with (go_at_call 15; refine (awake_any _ (HT.out.later (HB2.out.trans (HBW.out.mono hs2)))).mono ?_; rintro e w4 ⟨rfl, hb4⟩)
      go_ret
      exact ⟨rfl, (HB2.out.trans (HBW.out.mono hs2)).trans (hb4.mono (Nat.le_trans hs2 hsz))⟩
end Go.Proofs.YtepinmeidjlmmaaDoor

/- A []int argument, opened. -/
namespace Go.Proofs.YtepinmeidjlmmaaDoor
open Go.ChangeShapes Go.WideShapes Go.ChangeAt Go.RowKit
set_option maxRecDepth 100000

theorem open_nums {H : Type} {enc : TypeId × Value → H} {W : World} {b0 base : Nat} {r : Reach} {v : Value} {d : DataW H} {ps : List MemPlace} (hval : Value.okWide Tryd.prog W r b0 30 v) (hd : DataW.Trod enc Tryd.prog W base (fun _ => true) true 30 v d ps) :
    ∃ (A : Option Addr) (n cap : Nat) (l : List Int), v = .slice A n cap ∧ n ≤ 9223372036854775807 ∧ Ints W A n l := by
  obtain ⟨a0, len, cap, rfl⟩ := okWide_slice Tryd.underlying30 hval
  obtain ⟨fuel, hf⟩ := hd
  rcases open_ints Tryd.underlying30 Tryd.underlying3 tryd_cells3 hf with ⟨hcs, hx⟩ | ⟨a, len', cap', zs, hcs, _, hl, hm, hz, hx, hcell, hwz⟩
  · simp [Value.cells] at hcs
    obtain ⟨rfl, rfl, rfl⟩ := hcs
    exact ⟨none, 0, 0, [], rfl, by omega, rfl, fun i hi => absurd hi (by omega)⟩
  · simp [Value.cells] at hcs
    obtain ⟨rfl, rfl, rfl⟩ := hcs
    simp only [if_true] at hz
    refine ⟨some a, len, cap, zs.take len, rfl, by unfold maxLen at hm; omega, by simp; omega, fun i hi => ⟨a, rfl, ?_⟩⟩
    rw [hcell i (by omega)]
    simp [List.getD, hi]
end Go.Proofs.YtepinmeidjlmmaaDoor
