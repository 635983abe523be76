/- Joined: F5, F6, H1, H2, H3, H4, Held. -/
import Derived.Test.YtepinmeidjlmmaaDoorR8
import Derived.Test.YtepinmeidjlmmaaDoorR4
import Derived.WalkKit
import Derived.Deep.RegionHeld3
namespace Go.Proofs.YtepinmeidjlmmaaDoor
open Go.RowKit

theorem walkE_bad {f : Nat} {l : List It} {a dep : Nat} {key : Bool} {bf : ByteArray} {x : It} (hx : l[a]? = some x) (hc : checkRE a dep key bf x.k x.n x.d ≠ 0) : walkE (f + 1) l a dep key bf = (a, checkRE a dep key bf x.k x.n x.d) := by
  rw [walkE, hx]; simp only; rw [if_pos hc]
theorem walkE_leaf {f : Nat} {l : List It} {a dep : Nat} {key : Bool} {bf : ByteArray} {x : It} (hx : l[a]? = some x) (hc : checkRE a dep key bf x.k x.n x.d = 0) (hk : ¬ (x.k = 5 ∨ x.k = 6)) : walkE (f + 1) l a dep key bf = (a + 1, 0) := by
  rw [walkE, hx]; simp only; rw [if_neg (by simp [hc]), if_neg hk]
theorem walkE_nest {f : Nat} {l : List It} {a dep : Nat} {key : Bool} {bf : ByteArray} {x : It} (hx : l[a]? = some x) (hc : checkRE a dep key bf x.k x.n x.d = 0) (hk : x.k = 5 ∨ x.k = 6) :
    walkE (f + 1) l a dep key bf = loopE (fun a2 k2 b2 => walkE f l a2 (dep + 1) k2 b2) l (x.k == 6) x.n.toNat (a + 1) ⟨#[]⟩ := by
  rw [walkE, hx]; simp only; rw [if_neg (by simp [hc]), if_pos hk]

theorem sim (l : List It) (hpos : ∀ x ∈ l, 0 ≤ x.n) : ∀ (f dep : Nat), f + dep = 9 → ∀ (a : Nat) (s : List Lv) (bf : ByteArray), s.length = dep → compB a s = false → KeyRel s bf →
    validGo a s (l.drop a) = fin l s a (walkE (f + 1) l a dep (atKeyB s) bf) := by
  intro f
  induction f with
  | zero =>
    intro dep hf a s bf hs hc hr
    by_cases ha : a < l.length
    · have hx : l[a]? = some l[a] := List.getElem?_eq_getElem ha
      rw [drop_at ha]
      generalize l[a] = x at hx
      have hck := check_same (k := x.k) (n := x.n) (d := x.d) hc hr
      rw [hs] at hck
      have hne : checkRE a dep (atKeyB s) bf x.k x.n x.d ≠ 0 := by
        intro h
        have := (checkR_zero h).2.2.2.1
        omega
      rw [walkE_bad hx hne, validGo, hck, if_neg hne]
      simp [fin, hne]
    · have hx : l[a]? = none := List.getElem?_eq_none (by omega)
      rw [List.drop_eq_nil_of_le (by omega), validGo, if_neg (by simp [hc]), walkE, hx]
      simp [fin]
  | succ f ih =>
    intro dep hf a s bf hs hc hr
    by_cases ha : a < l.length
    · have hx : l[a]? = some l[a] := List.getElem?_eq_getElem ha
      have hp := hpos l[a] (List.getElem_mem ha)
      rw [drop_at ha]
      generalize l[a] = x at hx hp
      have hck := check_same (k := x.k) (n := x.n) (d := x.d) hc hr
      rw [hs] at hck
      by_cases hz : checkRE a dep (atKeyB s) bf x.k x.n x.d = 0
      · rw [validGo, hck, if_pos hz]
        by_cases hk : x.k = 5 ∨ x.k = 6
        · rw [walkE_nest hx hz hk]
          have hlen : (lessS (keyS s x.k x.n x.d)).length = dep := by rw [lessS_len, keyS_len, hs]
          have hdone : doneAt l s a = popAll (lessS (keyS s x.k x.n x.d)) := by simp [doneAt, hx]
          have H := ih (dep + 1) (by omega)
          by_cases hn : x.n = 0
          · have hp0 : ¬ 0 < partsN x.k x.n := by rw [hn]; unfold partsN; split <;> (try split) <;> omega
            rw [hn]
            simp only [Int.toNat_zero, loopE]
            rw [fin, if_neg (by simp), hdone, enterS, ← hn, pushed_no hp0]
          · obtain ⟨c, hcn⟩ : ∃ c : Nat, x.n = (c : Int) + 1 := ⟨x.n.toNat - 1, by omega⟩
            have hp1 : 0 < partsN x.k x.n := by
              unfold partsN
              rcases hk with h | h
              · rw [if_pos h]; omega
              · rw [if_neg (by omega), if_pos h]; omega
            have hN : x.n.toNat = c + 1 := by omega
            rw [hN, enterS, pushed_yes hp1]
            have hpop : popAll (newLv x.k x.n :: lessS (keyS s x.k x.n x.d)) = newLv x.k x.n :: lessS (keyS s x.k x.n x.d) := by
              rw [popAll, if_neg (by show partsN x.k x.n ≠ 0; omega)]
            rw [hpop]
            have hfin : ∀ r, fin l s a r = finL l (lessS (keyS s x.k x.n x.d)) r := fun r => by unfold fin finL; rw [hdone]
            rw [hfin]
            rcases hk with h | h
            · have e6 : (x.k == 6) = false := by simp [h]
              rw [e6]
              exact loop_arr l f dep H c (a + 1) (newLv x.k x.n) _ _ (by simp [newLv, h]) (by show partsN x.k x.n = _; unfold partsN; rw [if_pos h]; omega) hlen
            · have e6 : (x.k == 6) = true := by simp [h]
              rw [e6]
              exact loop_map l f dep H c (a + 1) (newLv x.k x.n) _ _ (by simp [newLv, h]) (by show partsN x.k x.n = _; unfold partsN; rw [if_neg (by omega), if_pos h]; omega) hlen (by simp [newLv]) (.inl ⟨rfl, by rw [Lib.toList_data]; rfl⟩)
        · have hp0 : ¬ 0 < partsN x.k x.n := by unfold partsN; rw [if_neg (fun h => hk (.inl h)), if_neg (fun h => hk (.inr h))]; omega
          rw [walkE_leaf hx hz hk, fin, if_neg (by simp), enterS, pushed_no hp0]
          simp [doneAt, hx]
      · rw [walkE_bad hx hz, validGo, hck, if_neg hz]
        simp [fin, hz]
    · have hx : l[a]? = none := List.getElem?_eq_none (by omega)
      rw [List.drop_eq_nil_of_le (by omega), validGo, if_neg (by simp [hc]), walkE, hx]
      simp [fin]

theorem loopE_mono (W : Nat → Bool → ByteArray → Nat × Int) (l : List It) (mp : Bool) (hW : ∀ a k b, (W a k b).2 = 0 → a ≤ (W a k b).1) : ∀ (c a : Nat) (last : ByteArray), (loopE W l mp c a last).2 = 0 → a ≤ (loopE W l mp c a last).1 := by
  intro c
  induction c with
  | zero => intro a last _; simp [loopE]
  | succ c ih =>
    intro a last h
    rw [loopE] at h ⊢
    cases mp with
    | true =>
      simp only [if_true] at h ⊢
      by_cases h1 : (W a true last).2 = 0
      · rw [if_neg (by simp [h1])] at h ⊢
        by_cases h2 : (W (W a true last).1 false ⟨#[]⟩).2 = 0
        · rw [if_neg (by simp [h2])] at h ⊢
          exact Nat.le_trans (hW _ _ _ h1) (Nat.le_trans (hW _ _ _ h2) (ih _ _ h))
        · rw [if_pos h2] at h; exact absurd h h2
      · rw [if_pos h1] at h; exact absurd h h1
    | false =>
      simp only [Bool.false_eq_true, if_false] at h ⊢
      by_cases h1 : (W a false ⟨#[]⟩).2 = 0
      · rw [if_neg (by simp [h1])] at h ⊢
        exact Nat.le_trans (hW _ _ _ h1) (ih _ _ h)
      · rw [if_pos h1] at h; exact absurd h h1
theorem walkE_mono (l : List It) : ∀ (f a dep : Nat) (key : Bool) (bf : ByteArray), (walkE f l a dep key bf).2 = 0 → a + 1 ≤ (walkE f l a dep key bf).1 := by
  intro f
  induction f with
  | zero => intro a dep key bf h; simp [walkE] at h
  | succ f ih =>
    intro a dep key bf h
    obtain ⟨x, hx, hc⟩ := walkE_ok h
    by_cases hk : x.k = 5 ∨ x.k = 6
    · rw [walkE_nest hx hc hk] at h ⊢
      exact loopE_mono _ _ _ (fun a2 k2 b2 h2 => by have := ih a2 (dep + 1) k2 b2 h2; omega) _ _ _ h
    · rw [walkE_leaf hx hc hk]; simp

/-- the reference's Validate -/
def validR (l : List It) : Int := if (walkE 10 l 0 0 false ⟨#[]⟩).2 ≠ 0 then (walkE 10 l 0 0 false ⟨#[]⟩).2 else if (walkE 10 l 0 0 false ⟨#[]⟩).1 < l.length then 2 else 0
theorem valid_same (l : List It) (hpos : ∀ x ∈ l, 0 ≤ x.n) : validE l = validR l := by
  have h := sim l hpos 9 0 rfl 0 [] ⟨#[]⟩ rfl rfl (fun h => by cases h)
  rw [List.drop_zero] at h
  unfold validE validR
  rw [h, show atKeyB [] = false from rfl]
  by_cases he : (walkE 10 l 0 0 false ⟨#[]⟩).2 = 0
  · have hm := walkE_mono l 10 0 0 false ⟨#[]⟩ he
    obtain ⟨x, hx, _⟩ := walkE_ok he
    have hd : doneAt l [] 0 = [] := by simp [doneAt, hx, keyS, lessS, popAll]
    rw [fin, if_neg (by simp [he]), if_neg (by simp [he]), hd]
    generalize (walkE 10 l 0 0 false ⟨#[]⟩).1 = m at hm
    have hcb : compB m [] = true := by simp [compB]; omega
    by_cases hl : m < l.length
    · rw [if_pos hl, drop_at hl, validGo, check2 hcb]
      rfl
    · rw [if_neg hl, List.drop_eq_nil_of_le (by omega), validGo, if_pos hcb]
  · rw [fin, if_pos he, if_pos he]

end Go.Proofs.YtepinmeidjlmmaaDoor

namespace Go.Proofs.YtepinmeidjlmmaaDoor
open Go.RowKit

theorem items_len {w : World} {B : Nat} {a : Option Addr} {len cap : Nat} {l : List It} (hI : ItemsAt w B (.slice a len cap) l) : len = l.length := by
  rcases hI.form with ⟨h, h2⟩ | ⟨b, off, c, h, _⟩
  · cases h; rw [h2]; rfl
  · cases h; rfl

set_option maxRecDepth 100000 in
set_option maxHeartbeats 400000 in
theorem validR_of (r : Nat × Int) (n : Nat) (a : Option Addr) (cap : Nat) (w : World)
    (hC : Calls Tryd.prog 42 #[.slice a n cap, .int .i64 0, .int .i64 0, .bool false, .string ⟨#[]⟩] w (WalkPost w r)) :
    Calls Tryd.prog 19 #[.slice a n cap] w fun e w' => e = .returned (.int .i64 (if r.2 ≠ 0 then r.2 else if r.1 < n then 2 else 0)) ∧ Below w.heap.size w w' := by
  obtain ⟨m, e⟩ := r
  have HC := Lib.hid hC
  clear hC
  by_cases he : e = 0
  · subst he
    by_cases hm : m < n
    · have h1 : (m : Int) < (n : Int) := by omega
      rw [if_neg (by simp), if_pos hm]
      go_enter Tryd.func19, Tryd.ntmps19
      go_wp2_with (go_at_call 42; refine HC.out.mono ?_; rintro e w1 ⟨rfl, hb1⟩)
      go_ret
      exact ⟨rfl, hb1⟩
    · have h1 : ¬ (m : Int) < (n : Int) := by omega
      rw [if_neg (by simp), if_neg hm]
      go_enter Tryd.func19, Tryd.ntmps19
      go_wp2_with (go_at_call 42; refine HC.out.mono ?_; rintro e w1 ⟨rfl, hb1⟩)
      go_ret
      exact ⟨rfl, hb1⟩
  · rw [if_pos he]
    go_enter Tryd.func19, Tryd.ntmps19
    go_wp2_with (go_at_call 42; refine HC.out.mono ?_; rintro e w1 ⟨rfl, hb1⟩)
    go_ret
    exact ⟨rfl, hb1⟩
theorem validR_any (l : List It) (v : Value) (w : World) (hI : ItemsAt w w.heap.size v l) (ht : Tabs w) :
    Calls Tryd.prog 19 #[v] w fun e w' => e = .returned (.int .i64 (validR l)) ∧ Below w.heap.size w w' := by
  have hC := walk_any l v 9 0 rfl 0 false ⟨#[]⟩ w hI ht
  rcases hI.form with ⟨rfl, hl⟩ | ⟨b, off, cap, rfl, _⟩
  · have h := validR_of _ 0 none 0 w hC
    have e : l.length = 0 := by rw [hl]; rfl
    unfold validR
    rw [e]
    exact h
  · exact validR_of _ l.length _ cap w hC

theorem validGo_shape : ∀ (l : List It) (c : Nat) (s : List Lv), validGo c s l = 0 → ∀ x ∈ l, shapeB x.k x.n x.d = true
  | [], _, _, _ => by simp
  | x :: r, c, s, h => by
    rw [validGo] at h
    by_cases hz : checkE c s x.k x.n x.d = 0
    · rw [if_pos hz] at h
      have hs : shapeB x.k x.n x.d = true := by
        cases hc : compB c s with
        | true => rw [check2 hc] at hz; cases hz
        | false =>
          by_cases hp : placeE c s x.k = 0
          · cases h5 : shapeB x.k x.n x.d with
            | true => rfl
            | false => rw [check4 hc hp h5] at hz; cases hz
          · rw [checkP hc hp] at hz; exact absurd hz hp
      intro y hy
      rcases List.mem_cons.1 hy with rfl | hy
      · exact hs
      · exact validGo_shape r _ _ h y hy
    · rw [if_neg hz] at h; exact absurd h hz

def encAllR (l : List It) : List Int := l.flatMap fun x => dataI (bytesS x.k x.n x.d)
theorem encAllR_take {l : List It} {j : Nat} (h : j < l.length) : encAllR (l.take (j + 1)) = encAllR (l.take j) ++ dataI (bytesS l[j].k l[j].n l[j].d) := by
  rw [List.take_succ_eq_append_getElem h, encAllR, List.flatMap_append]; simp [encAllR]
theorem bytesS_len (k n : Int) (d : ByteArray) : (bytesS k n d).size ≤ 10 + d.size := by
  have e : (bytesS k n d).size = (headR k n d).length + d.size := by
    rw [bytesS, ByteArray.size_append, strOfNums_size]
  have hlen : (headR k n d).length ≤ 9 := by
    unfold headR
    split
    · simp
    split
    · simp
    exact encHead_len _ _
  omega
theorem encAllR_len : ∀ {l : List It}, (∀ x ∈ l, Sound x) → (encAllR l).length ≤ l.length * 1034
  | [], _ => by simp [encAllR]
  | x :: r, h => by
    have h1 := encAllR_len (l := r) fun y hy => h y (List.mem_cons_of_mem _ hy)
    have h2 := bytesS_len x.k x.n x.d
    have h3 := (h x (by simp)).2.2.2.2
    have e : encAllR (x :: r) = dataI (bytesS x.k x.n x.d) ++ encAllR r := by simp [encAllR]
    rw [e, List.length_append, dataI_len, List.length_cons]
    omega

/-- both encodings read as one string -/
theorem enc_same_item {x : It} (hs : Sound x) (hsh : shapeB x.k x.n x.d = true) : Lib.bytesOf (dataI (bytesS x.k x.n x.d)) = Lib.bytesOf (encItem x.k x.n x.d) := by
  rw [bytesOf_data, ← Lib.toList_data]
  by_cases hk : x.k ≤ 6
  · exact bytesS_enc hk
  · have hnd : hasDataB x.k = false := by simp [hasDataB]; omega
    have he : x.d.toList.isEmpty = true := by
      cases he : x.d.toList.isEmpty with
      | true => rfl
      | false => rw [shape_bad he hnd] at hsh; cases hsh
    have hd : x.d.data.toList = [] := by rw [Lib.toList_data] at he; simpa using he
    rw [bytesS_list, hd, List.append_nil]
    have h8 := hs.2.2.1
    by_cases h7 : x.k = 7
    · rw [h7, encItem7]; simp [headR]
    · have h8 : x.k = 8 := by omega
      rw [h8, encItem8]; simp [headR]
theorem bytesOf_app (a b : List Int) : Lib.bytesOf (a ++ b) = Lib.bytesOf a ++ Lib.bytesOf b := by simp [Lib.bytesOf]
theorem enc_same : ∀ (l : List It), (∀ x ∈ l, Sound x) → (∀ x ∈ l, shapeB x.k x.n x.d = true) → Lib.bytesOf (encAllR l) = Lib.bytesOf (encAll l)
  | [], _, _ => rfl
  | x :: r, h, h2 => by
    have e1 : encAllR (x :: r) = dataI (bytesS x.k x.n x.d) ++ encAllR r := by simp [encAllR]
    have e2 : encAll (x :: r) = encItem x.k x.n x.d ++ encAll r := by simp [encAll]
    rw [e1, e2, bytesOf_app, bytesOf_app, enc_same_item (h x (by simp)) (h2 x (by simp)), enc_same r (fun y hy => h y (List.mem_cons_of_mem _ hy)) (fun y hy => h2 y (List.mem_cons_of_mem _ hy))]
theorem strOf_same {l : List It} (h : ∀ x ∈ l, Sound x) (h2 : ∀ x ∈ l, shapeB x.k x.n x.d = true) : strOfNums (encAllR l) = strOfNums (encAll l) := by
  have e := enc_same l h h2
  apply ByteArray.ext
  apply Array.toList_inj.1
  exact e

set_option maxRecDepth 100000 in
set_option maxHeartbeats 1000000 in
theorem encodeR_bad (l : List It) (v : Value) (w : World) (hI : ItemsAt w w.heap.size v l) (ht : Tabs w) (hz : validR l ≠ 0) :
    Calls Tryd.prog 17 #[v] w fun e w' => e = .returned (.tuple #[.slice none 0 0, .int .i64 (validR l)]) ∧ Below w.heap.size w w' := by
  have HV := Lib.hid (validR_any l v w hI ht)
  have hzb : (validR l != 0) = true := by simpa using hz
  clear hI ht hz
  go_enter Tryd.func17, Tryd.ntmps17
  go_wp2_with (go_at_call 19; refine HV.out.mono ?_; rintro e w1 ⟨rfl, hb1⟩)
  go_ret2
  exact ⟨rfl, hb1⟩

set_option maxRecDepth 100000 in
set_option maxHeartbeats 1000000 in
theorem encodeR_good (l : List It) (v : Value) (w : World) (hI : ItemsAt w w.heap.size v l) (ht : Tabs w) (hz : validR l = 0) (hS : ∀ x ∈ l, Sound x) (hlen : l.length ≤ 512) :
    Calls Tryd.prog 17 #[v] w fun e w' => ∃ v', e = .returned (.tuple #[v', .int .i64 0]) ∧ NewBytes w (encAllR l) v' w' := by
  have hzb : (validR l != 0) = false := by simpa using hz
  have HV := Lib.hid (validR_any l v w hI ht)
  have HZ := Lib.hid hz
  have HS := Lib.hid hS
  have hlen0 : 0 < l.length := by
    cases l with
    | nil => exact absurd hz (by decide)
    | cons a b => simp
  obtain ⟨b, off, cap, rfl, hb, hcells⟩ : ∃ b off cap, v = .slice (some ⟨b, off, none⟩) l.length cap ∧ b < w.heap.size ∧ ∀ i (h : i < l.length), w.cell? ⟨b, off + i * 3, none⟩ = some (.int .i64 l[i].k) ∧ w.cell? ⟨b, off + i * 3 + 1, none⟩ = some (.int .u64 l[i].n) ∧ w.cell? ⟨b, off + i * 3 + 2, none⟩ = some (.string l[i].d) := by
    rcases hI.form with ⟨_, h⟩ | h
    · rw [h] at hlen0; cases hlen0
    · exact h
  have HC := Lib.hid hcells
  clear hcells hI ht hz hS
  go_enter Tryd.func17, Tryd.ntmps17
  go_wp2_with (go_at_call 19; refine HV.out.mono ?_; rintro e w1 ⟨rfl, hb1⟩)
  have HB1 := Lib.hid hb1
  clear hb1
  go_loopw [5, 6] (fun v i wr => ∃ j : Nat, j ≤ l.length ∧ i = .int .i64 j ∧ wr.ownsRow w.heap.size 5 1 v (encAllR (l.take j)).length (bv (encAllR (l.take j))) ∧ Below w.heap.size w wr) (fun _ i _ => l.length - (intOf i).toNat)
  case atStart => exact ⟨0, by omega, rfl, World.ownsRow_nil _ _ _ _, HB1.out⟩
  case round =>
    obtain ⟨j, hj, rfl, ho, hbw⟩ := hrel
    have HO := Lib.hid ho
    have HB := Lib.hid hbw
    have hsz : w.heap.size ≤ wr.heap.size := hbw.size
    have hbr : b < wr.heap.size := by omega
    clear ho hbw
    by_cases hlt : j < l.length
    · obtain ⟨c0, c1, c2⟩ := HC.out j hlt
      have q0 := (HB.out.cell (p := ⟨b, off + j * 3, none⟩) hb).trans c0
      have q1 := (HB.out.cell (p := ⟨b, off + j * 3 + 1, none⟩) hb).trans c1
      have q2 := (HB.out.cell (p := ⟨b, off + j * 3 + 2, none⟩) hb).trans c2
      clear c0 c1 c2
      have hx := HS.out l[j] (List.getElem_mem hlt)
      have htk := encAllR_take hlt
      have HTK := Lib.hid htk
      have hln : (encAllR (l.take j)).length ≤ 900000 := by
        have h1 := encAllR_len (l := l.take j) (fun y hy => HS.out y (List.mem_of_mem_take hy))
        have h2 : (l.take j).length ≤ 512 := by rw [List.length_take]; omega
        have h3 : (l.take j).length * 1034 ≤ 512 * 1034 := Nat.mul_le_mul_right _ h2
        omega
      clear htk
      generalize l[j] = x at q0 q1 q2 hx HTK
      obtain ⟨k, n, d⟩ := x
      simp only [Sound] at q0 q1 q2 hx
      have hbs := bytesS_len k n d
      have hbs2 : (bytesS k n d).size ≤ 1000000000 := by omega
      have HCK := Lib.hid (bytesR_any k n d wr hx.2.1 hx.2.2.1 hx.1 hx.2.2.2.1 (by omega))
      clear hx hbs
      go_wp2_with (first | (go_at_call 38; refine HCK.out.mono ?_; rintro e w2 ⟨rfl, hb2⟩) | (at_builtin; refine app_str rfl _ _ rfl w.heap.size _ _ _ (bytesS k n d) (own_below HO.out hb2) rfl rfl (by omega) hbs2 (Nat.le_trans hsz hb2.size) ?_; intro v3 w3 ho3 hb3 _))
      go_roundw
      case rel => exact ⟨j + 1, by omega, by go_num, by rw [HTK.out, List.length_append, bv_app, dataI_cells, dataI_len]; exact ho3, (below_aft HB.out hb2).trans hb3⟩
      case measure => simp [intOf]; omega
    · have hjl : j = l.length := by omega
      subst hjl
      go_wp2
      go_ret2
      exact ⟨_, rfl, by have h := HO.out; rwa [List.take_length] at h, HB.out⟩

end Go.Proofs.YtepinmeidjlmmaaDoor

/- A reader over any bytes: take. -/
namespace Go.Proofs.YtepinmeidjlmmaaDoor
open Go.RowKit
set_option maxRecDepth 100000

/-- a slice value that holds the bytes zs -/
structure Bys (w : World) (A : Option Addr) (n : Nat) (zs : List Int) : Prop where
  len : zs.length = n
  rng : ∀ z ∈ zs, 0 ≤ z ∧ z ≤ 255
  at_ : ∀ i, i < n → ∃ a, A = some a ∧ w.cell? (a.add i) = some (.int .u8 (zs.getD i 0))
theorem add_add' (a : Addr) (i j : Nat) : (a.add i).add j = a.add (i + j) := by
  unfold Addr.add
  by_cases hi : i = 0 <;> by_cases hj : j = 0 <;> simp [hi, hj, Nat.add_assoc]
theorem block_add (a : Addr) (n : Nat) : (a.add n).block = a.block := by unfold Addr.add; split <;> rfl
theorem cell_in {w : World} {a : Addr} {v : Value} (h : w.cell? a = some v) : a.block < w.heap.size := by
  rcases Nat.lt_or_ge a.block w.heap.size with h1 | h1
  · exact h1
  · unfold World.cell? at h
    simp [Array.getElem?_eq_none h1] at h
theorem Bys.below {w w' : World} {A : Option Addr} {n : Nat} {zs : List Int} (h : Bys w A n zs) (hb : Below w.heap.size w w') : Bys w' A n zs :=
  ⟨h.len, h.rng, fun i hi => by
    obtain ⟨a, e, hc⟩ := h.at_ i hi
    exact ⟨a, e, (hb.cell (cell_in hc)).trans hc⟩⟩
/-- bytes below a block's number stay when what lies below it stays -/
def BysB (w : World) (B : Nat) (A : Option Addr) (n : Nat) (zs : List Int) : Prop := Bys w A n zs ∧ ∀ a, A = some a → 0 < n → a.block < B
theorem BysB.of {w : World} {A : Option Addr} {n : Nat} {zs : List Int} (h : Bys w A n zs) : BysB w w.heap.size A n zs :=
  ⟨h, fun a e h0 => by
    obtain ⟨a', e', hc⟩ := h.at_ 0 h0
    rw [e] at e'
    cases e'
    have := cell_in hc
    rw [block_add] at this
    exact this⟩
theorem BysB.below {w w' : World} {B : Nat} {A : Option Addr} {n : Nat} {zs : List Int} (h : BysB w B A n zs) (hb : Below B w w') : BysB w' B A n zs :=
  ⟨⟨h.1.len, h.1.rng, fun i hi => by
    obtain ⟨a, e, hc⟩ := h.1.at_ i hi
    exact ⟨a, e, (hb.cell (by rw [block_add]; exact h.2 a e (by omega))).trans hc⟩⟩, h.2⟩
theorem Bys.byte {w : World} {A : Option Addr} {n : Nat} {zs : List Int} (h : Bys w A n zs) (i : Nat) (hi : i < n) : 0 ≤ zs.getD i 0 ∧ zs.getD i 0 ≤ 255 := by
  have hl : i < zs.length := by have := h.len; omega
  simp only [List.getD, List.getElem?_eq_getElem hl, Option.getD_some]
  exact h.rng _ (List.getElem_mem hl)
/-- a stretch of them -/
def cutA (A : Option Addr) (cap at' : Nat) : Option Addr := if cap = at' then A else A.map (·.add at')
theorem Bys.cut {w : World} {A : Option Addr} {N cap : Nat} {zs : List Int} (h : Bys w A N zs) (at' n : Nat) (hn : at' + n ≤ N) (hc : N ≤ cap) :
    Bys w (cutA A cap at') n ((zs.drop at').take n) := by
  refine ⟨by have := h.len; simp; omega, fun z hz => h.rng z (List.mem_of_mem_drop (List.mem_of_mem_take hz)), fun i hi => ?_⟩
  obtain ⟨a, e, hcell⟩ := h.at_ (at' + i) (by omega)
  unfold cutA
  rw [if_neg (by omega), e]
  refine ⟨a.add at', rfl, ?_⟩
  rw [add_add', hcell]
  simp [List.getD, List.getElem?_drop, hi]
theorem cutA_eq (A : Option Addr) (at' : Nat) : cutA A at' at' = A := by unfold cutA; rw [if_pos rfl]
theorem cutA_ne {A : Option Addr} {cap at' : Nat} (h : cap ≠ at') : cutA A cap at' = A.map (·.add at') := by unfold cutA; rw [if_neg h]

/-- a reader at its input: not its nesting -/
structure Rd (w : World) (p : Nat) (A : Option Addr) (N cap at' : Nat) : Prop where
  inp : w.cell? ⟨p, 2, none⟩ = some (.slice A N cap)
  pos : w.cell? ⟨p, 3, none⟩ = some (.int .i64 at')
  fr : w.frozen? ⟨p, 3, none⟩ = false
  hcap : N ≤ cap
  hcm : cap ≤ 9223372036854775807
  hN : N ≤ 1000000000000
  hat : at' ≤ N

set_option maxHeartbeats 1000000 in
theorem tak_no (p : Nat) (A : Option Addr) (N cap at' : Nat) (n : Int) (w : World) (h : Rd w p A N cap at') (hn : (N : Int) < at' + n) (hn1 : n ≤ 18446744073709551615) :
    Calls Tryd.prog 66 #[.pointer (some ⟨p, 0, none⟩), .int .u64 n] w fun e w' => e = .returned (.tuple #[.slice none 0 0, .bool false]) ∧ ∃ m, w.drewN m = w' := by
  obtain ⟨h2, h3, _, _, _, hN, hat⟩ := h
  have k1 : ((N : Int) - (at' : Int)) < (n : Int) := by omega
  go_enter Tryd.func66, Tryd.ntmps66
  go_wp2_with fail
  go_quiet (fail)
  go_wp2
  go_ret2
  exact ⟨rfl, _, rfl⟩

theorem Rd.moved {w : World} {p : Nat} {A : Option Addr} {N cap at' : Nat} (h : Rd w p A N cap at') (m n : Nat) (hn : at' + n ≤ N) :
    RF p w ((w.drewN m).setCell ⟨p, 3, none⟩ (.int .i64 ((at' + n : Nat) : Int))) ∧ Rd ((w.drewN m).setCell ⟨p, 3, none⟩ (.int .i64 ((at' + n : Nat) : Int))) p A N cap (at' + n) :=
  ⟨RF.pos _ _ _ _, by rw [World.cell?_setCell_other _ _ _ _ (by simp)]; exact h.inp, World.cell?_setCell_same _ _ _ h.pos, by rw [World.frozen?_setCell]; exact h.fr, h.hcap, h.hcm, h.hN, hn⟩

set_option maxHeartbeats 1000000 in
theorem tak_yes (p : Nat) (A : Option Addr) (N cap at' n : Nat) (w : World) (h : Rd w p A N cap at') (hn : at' + n ≤ N) :
    Calls Tryd.prog 66 #[.pointer (some ⟨p, 0, none⟩), .int .u64 n] w fun e w' => e = .returned (.tuple #[.slice (cutA A cap at') n (cap - at'), .bool true]) ∧ RF p w w' ∧ Rd w' p A N cap (at' + n) := by
  have HM := Lib.hid (fun m => h.moved m n hn)
  have hm2 := fun m => h.moved m n hn
  rw [Int.natCast_add] at hm2
  have HM2 := Lib.hid hm2
  clear hm2
  obtain ⟨h2, h3, hf, hcap, hcm, hN, hat⟩ := h
  have k1 : ¬ ((N : Int) - (at' : Int)) < (n : Int) := by omega
  have k2 : (at' : Int) + (n : Int) ≤ (cap : Int) := by omega
  by_cases k3 : cap = at'
  · subst k3
    have hn0 : n = 0 := by omega
    subst hn0
    rw [cutA_eq]
    go_enter Tryd.func66, Tryd.ntmps66
    go_wp2_with fail
    go_quiet (fail)
    go_wp2_with fail
    go_quiet (fail)
    go_wp2
    go_ret2
    refine ⟨?_, HM.out _⟩
    show Ending.returned (.tuple #[.slice A 0 0, .bool true]) = _
    rw [Nat.sub_self]
  · rw [cutA_ne k3]
    go_enter Tryd.func66, Tryd.ntmps66
    go_wp2_with fail
    go_quiet (fail)
    go_wp2_with fail
    go_quiet (fail)
    go_wp2
    go_ret2
    refine ⟨?_, HM2.out _⟩
    show Ending.returned (.tuple #[.slice (Option.map (fun x => x.add at') A) (at' + n - at') (cap - at'), .bool true]) = _
    rw [Nat.add_sub_cancel_left]

theorem Rd.keep {w w' : World} {p : Nat} {A : Option Addr} {N cap at' : Nat} (h : Rd w p A N cap at') (hb : Below w.heap.size w w') : Rd w' p A N cap at' := by
  have hp := cell_in h.pos
  exact ⟨(hb.cell (p := ⟨p, 2, none⟩) hp).trans h.inp, (hb.cell (p := ⟨p, 3, none⟩) hp).trans h.pos, (hb.frozen (p := ⟨p, 3, none⟩) hp).trans h.fr, h.hcap, h.hcm, h.hN, h.hat⟩
end Go.Proofs.YtepinmeidjlmmaaDoor

/- A reader over any bytes: an argument that follows its first byte. -/
namespace Go.Proofs.YtepinmeidjlmmaaDoor
open Go.RowKit
set_option maxRecDepth 100000

/-- a number out of its bytes, the most significant one first -/
def beV : List Int → Int
  | [] => 0
  | x :: r => x * 256 ^ r.length + beV r
def beTo (ys : List Int) (k : Nat) : Int := (ys.take k).foldl (fun n x => n * 256 + x) 0
theorem beTo_succ {ys : List Int} {k : Nat} (h : k < ys.length) : beTo ys (k + 1) = beTo ys k * 256 + ys.getD k 0 := by
  unfold beTo
  rw [List.take_succ_eq_append_getElem h, List.foldl_append]
  simp [List.getD, List.getElem?_eq_getElem h]
theorem beTo_bd (ys : List Int) (hr : ∀ z ∈ ys, 0 ≤ z ∧ z ≤ 255) : ∀ k, k ≤ ys.length → 0 ≤ beTo ys k ∧ beTo ys k < 256 ^ k
  | 0, _ => by simp [beTo]
  | k + 1, h => by
    have ih := beTo_bd ys hr k (by omega)
    rw [beTo_succ (by omega)]
    have hx : 0 ≤ ys.getD k 0 ∧ ys.getD k 0 ≤ 255 := by
      simp only [List.getD, List.getElem?_eq_getElem (show k < ys.length by omega), Option.getD_some]
      exact hr _ (List.getElem_mem _)
    have hp : (256 : Int) ^ (k + 1) = 256 ^ k * 256 := Int.pow_succ _ _
    rw [hp]
    generalize beTo ys k = n at *
    generalize (256 : Int) ^ k = P at *
    omega
theorem or_step (n x : Int) (h0 : 0 ≤ n) (h1 : n < 72057594037927936) (hx0 : 0 ≤ x) (hx1 : x ≤ 255) : bits .or .u64 (IntKind.u64.wrap (n * 256)) x = n * 256 + x := by
  obtain ⟨N, rfl⟩ := Int.eq_ofNat_of_zero_le h0
  obtain ⟨X, rfl⟩ := Int.eq_ofNat_of_zero_le hx0
  have hw : IntKind.u64.wrap ((N : Int) * 256) = ((N * 256 : Nat) : Int) := by rw [IntKind.wrap_u64]; omega
  rw [hw]
  show IntKind.u64.wrap ((BitVec.ofInt 64 ((N * 256 : Nat) : Int) ||| BitVec.ofInt 64 (X : Int)).toNat : Int) = _
  rw [BitVec.ofInt_natCast, BitVec.ofInt_natCast, BitVec.toNat_or, BitVec.toNat_ofNat, BitVec.toNat_ofNat, Nat.mod_eq_of_lt (by omega), Nat.mod_eq_of_lt (by omega)]
  have e : N * 256 ||| X = N * 256 + X := by
    have := Nat.two_pow_add_eq_or_of_lt (i := 8) (show X < 2 ^ 8 by omega) N
    rw [show 2 ^ 8 * N = N * 256 by omega] at this
    exact this.symm
  rw [e, IntKind.wrap_u64]
  omega
def widE (ys : List Int) (size : Nat) : Int × Int := if argSz (beTo ys size) = (size : Int) then (beTo ys size, 0) else (0, 2)
theorem wid_ok {ys : List Int} {size : Nat} (h : argSz (beTo ys size) = (size : Int)) : widE ys size = (beTo ys size, 0) := by unfold widE; rw [if_pos h]
theorem wid_bad {ys : List Int} {size : Nat} (h : ¬ argSz (beTo ys size) = (size : Int)) : widE ys size = (0, 2) := by unfold widE; rw [if_neg h]

set_option maxHeartbeats 1000000 in
theorem wide_short (p : Nat) (A : Option Addr) (N cap at' size : Nat) (w : World) (h : Rd w p A N cap at') (hs : size ≤ 8) (hn : N < at' + size) :
    Calls Tryd.prog 81 #[.pointer (some ⟨p, 0, none⟩), .int .i64 size] w fun e w' => e = .returned (.tuple #[.int .u64 0, .int .i64 1]) ∧ ∃ m, w.drewN m = w' := by
  have HT := Lib.hid (tak_no p A N cap at' (size : Int) w h (by omega) (by omega))
  clear h
  go_enter Tryd.func81, Tryd.ntmps81
  go_wp2_with (go_at_call 66; refine HT.out.mono ?_; rintro e w' ⟨rfl, m, rfl⟩)
  go_ret2
  exact ⟨rfl, m, rfl⟩

set_option maxHeartbeats 1000000 in
theorem wide_full (p : Nat) (A : Option Addr) (N cap at' size : Nat) (zs : List Int) (w : World) (h : Rd w p A N cap at') (hb : BysB w p A N zs) (hs : size ≤ 8) (hn : at' + size ≤ N) :
    Calls Tryd.prog 81 #[.pointer (some ⟨p, 0, none⟩), .int .i64 size] w fun e w' => e = .returned (.tuple #[.int .u64 (widE ((zs.drop at').take size) size).1, .int .i64 (widE ((zs.drop at').take size) size).2]) ∧ RF p w w' ∧ Rd w' p A N cap (at' + size) := by
  have HT := Lib.hid (tak_yes p A N cap at' size w h hn)
  have hp := cell_in h.pos
  have HB := Lib.hid hb
  have hcut := fun (W : World) (hW : RF p w W) => (hb.below (hW.below (Nat.le_of_lt hp))).1.cut at' size hn h.hcap
  have HC := Lib.hid hcut
  clear h hb hcut
  generalize hys : (zs.drop at').take size = ys at *
  have hlen : ys.length = size := by have := HB.out.1.len; rw [← hys]; simp; omega
  have hrng : ∀ z ∈ ys, 0 ≤ z ∧ z ≤ 255 := by rw [← hys]; exact fun z hz => HB.out.1.rng z (List.mem_of_mem_drop (List.mem_of_mem_take hz))
  have HBD := Lib.hid (beTo_bd ys hrng)
  clear hys hrng
  go_enter Tryd.func81, Tryd.ntmps81
  go_wp2_with (go_at_call 66; refine HT.out.mono ?_; rintro e w' ⟨rfl, hrf, hrd⟩)
  have HY := Lib.hid (HC.out w' hrf)
  have HR := Lib.hid hrf
  have HD := Lib.hid hrd
  clear hrf hrd
  generalize cutA A cap at' = A2 at *
  have HL := Lib.hid hlen
  clear hlen
  go_loop [4, 21] (fun n i => ∃ k : Nat, k ≤ size ∧ i = .int .i64 k ∧ n = .int .u64 (beTo ys k)) (fun _ i => size - (intOf i).toNat)
  case atStart => exact ⟨0, by omega, rfl, rfl⟩
  case round =>
    obtain ⟨k, hk, rfl, rfl⟩ := hrel
    by_cases hlt : k < size
    · obtain ⟨a, rfl, hc⟩ := HY.out.at_ k hlt
      obtain ⟨x0, x1⟩ := HY.out.byte k hlt
      have hsu := beTo_succ (ys := ys) (k := k) (by have := HL.out; omega)
      have hbd := HBD.out k (by have := HL.out; omega)
      have hp56 : (256 : Int) ^ k ≤ 72057594037927936 := by
        have h7 : k = 0 ∨ k = 1 ∨ k = 2 ∨ k = 3 ∨ k = 4 ∨ k = 5 ∨ k = 6 ∨ k = 7 := by omega
        rcases h7 with rfl | rfl | rfl | rfl | rfl | rfl | rfl | rfl <;> decide
      have hb1 : 0 ≤ beTo ys k ∧ beTo ys k < 72057594037927936 := by omega
      generalize ys.getD k 0 = x at *
      generalize beTo ys k = n at *
      have HS := Lib.hid hsu
      have HB1 := Lib.hid hb1
      clear hsu hbd hp56 hb1
      go_wp2
      go_round
      case rel => exact ⟨k + 1, by omega, by go_num, by rw [or_step n x HB1.out.1 HB1.out.2 x0 x1, HS.out]⟩
      case measure => (simp [intOf] <;> omega)
    · have hkn : k = size := by omega
      subst hkn
      have HA := Lib.hid (fun (W : World) => argSz_any (beTo ys k) W)
      by_cases hgood : argSz (beTo ys k) = (k : Int)
      · have HW := Lib.hid (wid_ok hgood)
        have hne : (argSz (beTo ys k) != (k : Int)) = false := by simp [hgood]
        generalize beTo ys k = n at *
        generalize hz : argSz n = z at *
        have HZ := Lib.hid hz
        have HG := Lib.hid hgood
        clear hz hgood
        go_wp2_with (go_at_call 75; refine (HA.out _).mono ?_; rintro e w9 ⟨rfl, rfl⟩)
        go_ret2
        exact ⟨by rw [HW.out]; rfl, HR.out, HD.out⟩
      · have HW := Lib.hid (wid_bad hgood)
        have hne : (argSz (beTo ys k) != (k : Int)) = true := by simp [hgood]
        generalize beTo ys k = n at *
        generalize hz : argSz n = z at *
        have HZ := Lib.hid hz
        clear hz hgood
        go_wp2_with (go_at_call 75; refine (HA.out _).mono ?_; rintro e w9 ⟨rfl, rfl⟩)
        go_ret2
        exact ⟨by rw [HW.out]; rfl, HR.out, HD.out⟩
end Go.Proofs.YtepinmeidjlmmaaDoor

/- A reader over any bytes: the head of an item. -/
namespace Go.Proofs.YtepinmeidjlmmaaDoor
open Go.RowKit
set_option maxRecDepth 100000

theorem and31 (x : Int) (h0 : 0 ≤ x) (h1 : x ≤ 255) : bits .and .u8 x 31 = x % 32 := by
  have key : ∀ a : Fin 256, bits BinOp.and IntKind.u8 ((a.val : Nat) : Int) 31 = ((a.val : Nat) : Int) % 32 := by decide +kernel
  have := key ⟨x.toNat, by omega⟩
  simpa [Int.toNat_of_nonneg h0] using this
theorem getD_drop (zs : List Int) (a i : Nat) : (zs.drop a).getD i 0 = zs.getD (a + i) 0 := by simp [List.getD, List.getElem?_drop]

abbrev HeadV (k n e : Int) : Ending := .returned (.tuple #[.int .i64 k, .int .u64 n, .int .i64 e])

set_option maxHeartbeats 1000000 in
theorem hed_short (p : Nat) (A : Option Addr) (N cap : Nat) (w : World) (h : Rd w p A N cap N) :
    Calls Tryd.prog 64 #[.pointer (some ⟨p, 0, none⟩)] w fun e w' => e = HeadV 0 0 1 ∧ RF p w w' := by
  have HT := Lib.hid (tak_no p A N cap N 1 w h (by omega) (by omega))
  clear h
  go_enter Tryd.func64, Tryd.ntmps64
  go_wp2_with (go_at_call 66; refine HT.out.mono ?_; rintro e w' ⟨rfl, m, rfl⟩)
  go_ret3
  refine ⟨rfl, ?_⟩
  exact ⟨rfl, rfl, rfl, Nat.le_refl _, fun _ _ _ => rfl, fun _ _ => rfl, fun _ => rfl⟩

/-- what a byte at the reader's place is good for -/
structure One (w : World) (p : Nat) (A : Option Addr) (N cap at' : Nat) (x : Int) (zs : List Int) : Prop where
  rd : Rd w p A N cap at'
  by_ : BysB w p A N zs
  lt : at' < N
  x0 : 0 ≤ x
  x1 : x ≤ 255
  at_ : zs.getD at' 0 = x
theorem One.take {w : World} {p : Nat} {A : Option Addr} {N cap at' : Nat} {x : Int} {zs : List Int} (h : One w p A N cap at' x zs) :
    Calls Tryd.prog 66 #[.pointer (some ⟨p, 0, none⟩), .int .u64 1] w fun e w' => (∃ a, e = .returned (.tuple #[.slice (some a) 1 (cap - at'), .bool true]) ∧ w'.cell? a = some (.int .u8 x)) ∧ RF p w w' ∧ Rd w' p A N cap (at' + 1) := by
  have hp := cell_in h.rd.pos
  refine (tak_yes p A N cap at' 1 w h.rd h.lt).mono ?_
  rintro e w' ⟨rfl, hr, hd⟩
  refine ⟨?_, hr, hd⟩
  have hc := (h.by_.below (hr.below (Nat.le_of_lt hp))).1.cut at' 1 h.lt h.rd.hcap
  obtain ⟨a, e, hcell⟩ := hc.at_ 0 (by omega)
  refine ⟨a, by rw [e], ?_⟩
  have e1 : a.add 0 = a := by unfold Addr.add; rw [if_pos rfl]
  rw [e1] at hcell
  rw [hcell]
  have : ((zs.drop at').take 1).getD 0 0 = x := by
    rw [← h.at_]
    simp [List.getD, List.getElem?_drop]
  rw [this]

set_option maxHeartbeats 1000000 in
theorem hed_one (p : Nat) (A : Option Addr) (N cap at' : Nat) (x : Int) (zs : List Int) (w : World) (h : One w p A N cap at' x zs) (hx : x = 244 ∨ x = 245 ∨ x = 246) :
    Calls Tryd.prog 64 #[.pointer (some ⟨p, 0, none⟩)] w fun e w' => e = HeadV (if x = 246 then 8 else 7) (if x = 245 then 1 else 0) 0 ∧ RF p w w' ∧ Rd w' p A N cap (at' + 1) := by
  have HT := Lib.hid h.take
  clear h
  rcases hx with rfl | rfl | rfl
  all_goals
    go_enter Tryd.func64, Tryd.ntmps64
    go_wp2_with (go_at_call 66; refine HT.out.mono ?_; rintro e w' ⟨⟨a, rfl, hc⟩, hr, hd⟩)
    go_ret3
    exact ⟨rfl, hr, hd⟩

set_option maxHeartbeats 1000000 in
theorem hed_bad (p : Nat) (A : Option Addr) (N cap at' : Nat) (x m l : Int) (zs : List Int) (w : World) (h : One w p A N cap at' x zs) (hx : x ≠ 244 ∧ x ≠ 245 ∧ x ≠ 246) (hm : x / 32 = m) (hl : x % 32 = l) (hbad : 6 < 1 + m ∨ 27 < l) :
    Calls Tryd.prog 64 #[.pointer (some ⟨p, 0, none⟩)] w fun e w' => e = HeadV 0 0 2 ∧ RF p w w' := by
  have HT := Lib.hid h.take
  have q0 := h.x0
  have q1 := h.x1
  have ha := and31 x h.x0 h.x1
  rw [hl] at ha
  have m0 : 0 ≤ m ∧ m ≤ 7 := by omega
  have l0 : 0 ≤ l ∧ l ≤ 31 := by omega
  have y1 : (x == 244) = false := by simp; omega
  have y2 : (x == 245) = false := by simp; omega
  have y3 : (x == 246) = false := by simp; omega
  clear h hx hl
  by_cases h6 : 6 < 1 + m
  · clear hbad
    go_enter Tryd.func64, Tryd.ntmps64
    go_wp2_with (go_at_call 66; refine HT.out.mono ?_; rintro e w' ⟨⟨a, rfl, hc⟩, hr, hd⟩)
    go_ret3
    exact ⟨rfl, hr⟩
  · have h27 : 27 < l := by omega
    clear hbad
    go_enter Tryd.func64, Tryd.ntmps64
    go_wp2_with (go_at_call 66; refine HT.out.mono ?_; rintro e w' ⟨⟨a, rfl, hc⟩, hr, hd⟩)
    go_ret3
    exact ⟨rfl, hr⟩

set_option maxHeartbeats 1000000 in
theorem hed_low (p : Nat) (A : Option Addr) (N cap at' : Nat) (x m l : Int) (zs : List Int) (w : World) (h : One w p A N cap at' x zs) (hm : x / 32 = m) (hl : x % 32 = l) (h6 : m ≤ 5) (h24 : l < 24) :
    Calls Tryd.prog 64 #[.pointer (some ⟨p, 0, none⟩)] w fun e w' => e = HeadV (1 + m) l 0 ∧ RF p w w' ∧ Rd w' p A N cap (at' + 1) := by
  have HT := Lib.hid h.take
  have q0 := h.x0
  have q1 := h.x1
  have ha := and31 x h.x0 h.x1
  rw [hl] at ha
  have m0 : 0 ≤ m ∧ m ≤ 7 := by omega
  have l0 : 0 ≤ l ∧ l ≤ 31 := by omega
  have y1 : (x == 244) = false := by simp; omega
  have y2 : (x == 245) = false := by simp; omega
  have y3 : (x == 246) = false := by simp; omega
  have h66 : ¬ 6 < 1 + m := by omega
  have h27 : ¬ 27 < l := by omega
  clear h hl
  go_enter Tryd.func64, Tryd.ntmps64
  go_wp2_with (go_at_call 66; refine HT.out.mono ?_; rintro e w' ⟨⟨a, rfl, hc⟩, hr, hd⟩)
  go_ret3
  exact ⟨rfl, hr, hd⟩

set_option maxHeartbeats 1000000 in
theorem hed_wshort (p : Nat) (A : Option Addr) (N cap at' : Nat) (x m : Int) (j : Nat) (zs : List Int) (w : World) (h : One w p A N cap at' x zs) (hm : x / 32 = m) (hl : x % 32 = 24 + j) (h6 : m ≤ 5) (hj : j < 4) (hN : N < at' + 1 + 2 ^ j) :
    Calls Tryd.prog 64 #[.pointer (some ⟨p, 0, none⟩)] w fun e w' => e = HeadV 0 0 1 ∧ RF p w w' := by
  have HT := Lib.hid h.take
  have q0 := h.x0
  have q1 := h.x1
  have ha := and31 x h.x0 h.x1
  rw [hl] at ha
  have m0 : 0 ≤ m ∧ m ≤ 7 := by omega
  have y1 : (x == 244) = false := by simp; omega
  have y2 : (x == 245) = false := by simp; omega
  have y3 : (x == 246) = false := by simp; omega
  have h66 : ¬ 6 < 1 + m := by omega
  clear h hl
  have h4 : j = 0 ∨ j = 1 ∨ j = 2 ∨ j = 3 := by omega
  rcases h4 with rfl | rfl | rfl | rfl
  all_goals
    have HW := Lib.hid (fun (W : World) (hW : Rd W p A N cap (at' + 1)) => wide_short p A N cap (at' + 1) _ W hW (by decide) hN)
    go_enter Tryd.func64, Tryd.ntmps64
    go_wp2_with (first | (go_at_call 66; refine HT.out.mono ?_; rintro e w' ⟨⟨a, rfl, hc⟩, hr, hd⟩) | (go_at_call 81; refine (HW.out _ hd).mono ?_; rintro e w9 ⟨rfl, k, rfl⟩))
    go_ret3
    exact ⟨rfl, hr.trans ⟨rfl, rfl, rfl, Nat.le_refl _, fun _ _ _ => rfl, fun _ _ => rfl, fun _ => rfl⟩⟩

/-- the argument of size bytes that follows the place at' -/
def widN (zs : List Int) (at' size : Nat) : Int := beTo ((zs.drop (at' + 1)).take size) size
set_option maxHeartbeats 1000000 in
theorem hed_wbad (p : Nat) (A : Option Addr) (N cap at' : Nat) (x m : Int) (j : Nat) (zs : List Int) (w : World) (h : One w p A N cap at' x zs) (hm : x / 32 = m) (hl : x % 32 = 24 + j) (h6 : m ≤ 5) (hj : j < 4) (hN : at' + 1 + 2 ^ j ≤ N)
    (hbad : ¬ argSz (widN zs at' (2 ^ j)) = ((2 ^ j : Nat) : Int)) :
    Calls Tryd.prog 64 #[.pointer (some ⟨p, 0, none⟩)] w fun e w' => e = HeadV 0 0 2 ∧ RF p w w' := by
  have HT := Lib.hid h.take
  have q0 := h.x0
  have q1 := h.x1
  have hp := cell_in h.rd.pos
  have HBy := Lib.hid (fun (W : World) (hW : RF p w W) => h.by_.below (hW.below (Nat.le_of_lt hp)))
  have ha := and31 x h.x0 h.x1
  rw [hl] at ha
  have m0 : 0 ≤ m ∧ m ≤ 7 := by omega
  have y1 : (x == 244) = false := by simp; omega
  have y2 : (x == 245) = false := by simp; omega
  have y3 : (x == 246) = false := by simp; omega
  have h66 : ¬ 6 < 1 + m := by omega
  clear h hl hp
  have h4 : j = 0 ∨ j = 1 ∨ j = 2 ∨ j = 3 := by omega
  rcases h4 with rfl | rfl | rfl | rfl
  all_goals
    have hwe := wid_bad hbad
    have HW := Lib.hid (fun (W : World) (hW : Rd W p A N cap (at' + 1)) (hB : BysB W p A N zs) => wide_full p A N cap (at' + 1) _ zs W hW hB (by decide) hN)
    rw [hwe] at HW
    clear hwe hbad
    go_enter Tryd.func64, Tryd.ntmps64
    go_wp2_with (first | (go_at_call 66; refine HT.out.mono ?_; rintro e w' ⟨⟨a, rfl, hc⟩, hr, hd⟩; have HR := Lib.hid hr; have HD := Lib.hid hd; clear hr hd) | (go_at_call 81; refine (HW.out _ HD.out (HBy.out _ HR.out)).mono ?_; rintro e w9 ⟨rfl, hr9, hd9⟩))
    go_ret3
    exact ⟨rfl, HR.out.trans hr9⟩
set_option maxHeartbeats 1000000 in
theorem hed_wide (p : Nat) (A : Option Addr) (N cap at' : Nat) (x m : Int) (j : Nat) (zs : List Int) (w : World) (h : One w p A N cap at' x zs) (hm : x / 32 = m) (hl : x % 32 = 24 + j) (h6 : m ≤ 5) (hj : j < 4) (hN : at' + 1 + 2 ^ j ≤ N)
    (hok : argSz (widN zs at' (2 ^ j)) = ((2 ^ j : Nat) : Int)) :
    Calls Tryd.prog 64 #[.pointer (some ⟨p, 0, none⟩)] w fun e w' => e = HeadV (1 + m) (widN zs at' (2 ^ j)) 0 ∧ RF p w w' ∧ Rd w' p A N cap (at' + 1 + 2 ^ j) := by
  have HT := Lib.hid h.take
  have q0 := h.x0
  have q1 := h.x1
  have hp := cell_in h.rd.pos
  have HBy := Lib.hid (fun (W : World) (hW : RF p w W) => h.by_.below (hW.below (Nat.le_of_lt hp)))
  have ha := and31 x h.x0 h.x1
  rw [hl] at ha
  have m0 : 0 ≤ m ∧ m ≤ 7 := by omega
  have y1 : (x == 244) = false := by simp; omega
  have y2 : (x == 245) = false := by simp; omega
  have y3 : (x == 246) = false := by simp; omega
  have h66 : ¬ 6 < 1 + m := by omega
  clear h hl hp
  have h4 : j = 0 ∨ j = 1 ∨ j = 2 ∨ j = 3 := by omega
  rcases h4 with rfl | rfl | rfl | rfl
  all_goals
    have hwe := wid_ok hok
    have HW := Lib.hid (fun (W : World) (hW : Rd W p A N cap (at' + 1)) (hB : BysB W p A N zs) => wide_full p A N cap (at' + 1) _ zs W hW hB (by decide) hN)
    rw [hwe] at HW
    clear hwe hok
    go_enter Tryd.func64, Tryd.ntmps64
    go_wp2_with (first | (go_at_call 66; refine HT.out.mono ?_; rintro e w' ⟨⟨a, rfl, hc⟩, hr, hd⟩; have HR := Lib.hid hr; have HD := Lib.hid hd; clear hr hd) | (go_at_call 81; refine (HW.out _ HD.out (HBy.out _ HR.out)).mono ?_; rintro e w9 ⟨rfl, hr9, hd9⟩))
    go_ret3
    exact ⟨rfl, HR.out.trans hr9, hd9⟩
end Go.Proofs.YtepinmeidjlmmaaDoor

/- A reader over any bytes: the head as one contract. -/
namespace Go.Proofs.YtepinmeidjlmmaaDoor
open Go.RowKit
set_option maxRecDepth 100000

theorem nestAt.rf {w w' : World} {base p c : Nat} {s : List Lv} {v : Value} (h : nestAt w base p c s v) (hr : RF p w w') : nestAt w' base p c s v := by
  refine ⟨(hr.cell 0 (by omega)).trans h.cnt, (hr.cell 1 (by omega)).trans h.lv, (hr.frz 0).trans h.fr0, (hr.frz 1).trans h.fr1, ?_, h.lt, Nat.le_trans h.hb hr.size, h.len, h.c512, h.ok⟩
  refine ⟨h.own.1, ?_⟩
  rcases h.own.2 with h0 | ⟨g, cap, cur, hv, hg, hh, hc⟩
  · exact .inl h0
  · refine .inr ⟨g, cap, cur, hv, hg, ?_, hc⟩
    rw [hr.block g (lt_of_heap hh) (by have := h.lt; omega), hh]

/-- a reader and its nesting -/
structure RdS (w : World) (p base c : Nat) (s : List Lv) (A : Option Addr) (N cap at' : Nat) (zs : List Int) : Prop where
  nest : ∃ v, nestAt w base p c s v
  rd : Rd w p A N cap at'
  by_ : BysB w p A N zs
  tabs : Tabs w
  p4 : 4 ≤ p
theorem RdS.plt {w : World} {p base c : Nat} {s : List Lv} {A : Option Addr} {N cap at' : Nat} {zs : List Int} (h : RdS w p base c s A N cap at' zs) : p < w.heap.size := cell_in h.rd.pos
theorem RdS.rf {w w' : World} {p base c : Nat} {s : List Lv} {A : Option Addr} {N cap at' at2 : Nat} {zs : List Int} (h : RdS w p base c s A N cap at' zs) (hr : RF p w w') (hd : Rd w' p A N cap at2) : RdS w' p base c s A N cap at2 zs := by
  obtain ⟨v, hv⟩ := h.nest
  have hb := hr.below (Nat.le_of_lt h.plt)
  exact ⟨⟨v, hv.rf hr⟩, hd, h.by_.below hb, h.tabs.below hb h.p4, h.p4⟩
theorem RdS.keep {w w' : World} {p base c : Nat} {s : List Lv} {A : Option Addr} {N cap at' : Nat} {zs : List Int} (h : RdS w p base c s A N cap at' zs) (hb : Below w.heap.size w w') : RdS w' p base c s A N cap at' zs := by
  obtain ⟨v, hv⟩ := h.nest
  exact ⟨⟨v, hv.later hb⟩, h.rd.keep hb, h.by_.below (hb.mono (Nat.le_of_lt h.plt)), h.tabs.later hb, h.p4⟩
theorem RF.of_below {p : Nat} {w w' : World} (hb : Below w.heap.size w w') (hp : p < w.heap.size) : RF p w w' :=
  ⟨hb.os, hb.tape, hb.output, hb.size, fun k hk _ => hb.block k hk, fun j _ => hb.cell (p := ⟨p, j, none⟩) hp, fun j => hb.frozen (p := ⟨p, j, none⟩) hp⟩

/-- kind, argument, error and the place behind the head at a -/
def headE (zs : List Int) (N a : Nat) : Int × Int × Int × Nat :=
  if N ≤ a then (0, 0, 1, a)
  else if zs.getD a 0 = 244 ∨ zs.getD a 0 = 245 ∨ zs.getD a 0 = 246 then (if zs.getD a 0 = 246 then 8 else 7, if zs.getD a 0 = 245 then 1 else 0, 0, a + 1)
  else if 6 < 1 + zs.getD a 0 / 32 ∨ 27 < zs.getD a 0 % 32 then (0, 0, 2, a)
  else if zs.getD a 0 % 32 < 24 then (1 + zs.getD a 0 / 32, zs.getD a 0 % 32, 0, a + 1)
  else if N < a + 1 + 2 ^ (zs.getD a 0 % 32 - 24).toNat then (0, 0, 1, a)
  else if argSz (widN zs a (2 ^ (zs.getD a 0 % 32 - 24).toNat)) = ((2 ^ (zs.getD a 0 % 32 - 24).toNat : Nat) : Int) then (1 + zs.getD a 0 / 32, widN zs a (2 ^ (zs.getD a 0 % 32 - 24).toNat), 0, a + 1 + 2 ^ (zs.getD a 0 % 32 - 24).toNat)
  else (0, 0, 2, a)

def HeadP (p : Nat) (A : Option Addr) (N cap : Nat) (h : Int × Int × Int × Nat) (w : World) (e : Ending) (w' : World) : Prop :=
  e = HeadV h.1 h.2.1 h.2.2.1 ∧ RF p w w' ∧ (h.2.2.1 = 0 → Rd w' p A N cap h.2.2.2)

theorem hed_any (p : Nat) (A : Option Addr) (N cap a : Nat) (zs : List Int) (w : World) (h : Rd w p A N cap a) (hb : BysB w p A N zs) :
    Calls Tryd.prog 64 #[.pointer (some ⟨p, 0, none⟩)] w (HeadP p A N cap (headE zs N a) w) := by
  unfold headE
  by_cases hN : N ≤ a
  · rw [if_pos hN]
    have hE : a = N := by have := h.hat; omega
    subst hE
    exact (hed_short p A a cap w h).mono fun e w' hh => ⟨hh.1, hh.2, fun h0 => by cases h0⟩
  rw [if_neg hN]
  have hby := hb.1.byte a (by omega)
  have ho : One w p A N cap a (zs.getD a 0) zs := ⟨h, hb, by omega, hby.1, hby.2, rfl⟩
  generalize zs.getD a 0 = x at *
  by_cases hx : x = 244 ∨ x = 245 ∨ x = 246
  · rw [if_pos hx]
    exact (hed_one p A N cap a x zs w ho hx).mono fun e w' hh => ⟨hh.1, hh.2.1, fun _ => hh.2.2⟩
  rw [if_neg hx]
  have hx3 : x ≠ 244 ∧ x ≠ 245 ∧ x ≠ 246 := by omega
  by_cases hbad : 6 < 1 + x / 32 ∨ 27 < x % 32
  · rw [if_pos hbad]
    exact (hed_bad p A N cap a x _ _ zs w ho hx3 rfl rfl hbad).mono fun e w' hh => ⟨hh.1, hh.2, fun h0 => by cases h0⟩
  rw [if_neg hbad]
  by_cases hlow : x % 32 < 24
  · rw [if_pos hlow]
    exact (hed_low p A N cap a x _ _ zs w ho rfl rfl (by omega) hlow).mono fun e w' hh => ⟨hh.1, hh.2.1, fun _ => hh.2.2⟩
  rw [if_neg hlow]
  obtain ⟨j, hj⟩ : ∃ j : Nat, x % 32 - 24 = j := ⟨(x % 32 - 24).toNat, by omega⟩
  rw [hj, Int.toNat_natCast]
  by_cases hsh : N < a + 1 + 2 ^ j
  · rw [if_pos hsh]
    exact (hed_wshort p A N cap a x _ j zs w ho rfl (by omega) (by omega) (by omega) hsh).mono fun e w' hh => ⟨hh.1, hh.2, fun h0 => by cases h0⟩
  rw [if_neg hsh]
  by_cases hok : argSz (widN zs a (2 ^ j)) = ((2 ^ j : Nat) : Int)
  · rw [if_pos hok]
    exact (hed_wide p A N cap a x _ j zs w ho rfl (by omega) (by omega) (by omega) (by omega) hok).mono fun e w' hh => ⟨hh.1, hh.2.1, fun _ => hh.2.2⟩
  · rw [if_neg hok]
    exact (hed_wbad p A N cap a x _ j zs w ho rfl (by omega) (by omega) (by omega) (by omega) hok).mono fun e w' hh => ⟨hh.1, hh.2, fun h0 => by cases h0⟩

/-- what a head without error is like -/
theorem head_ok {zs : List Int} {N a : Nat} (hr : ∀ z ∈ zs, 0 ≤ z ∧ z ≤ 255) (hl : zs.length = N) {k n : Int} {a2 : Nat} (h : headE zs N a = (k, n, 0, a2)) :
    1 ≤ k ∧ k ≤ 8 ∧ 0 ≤ n ∧ n ≤ 18446744073709551615 ∧ (k = 7 → n ≤ 1) ∧ (k = 8 → n = 0) ∧ a < a2 ∧ a2 ≤ N := by
  unfold headE at h
  by_cases hN : N ≤ a
  · rw [if_pos hN] at h; simp at h
  rw [if_neg hN] at h
  have hby : 0 ≤ zs.getD a 0 ∧ zs.getD a 0 ≤ 255 := by
    simp only [List.getD, List.getElem?_eq_getElem (show a < zs.length by omega), Option.getD_some]
    exact hr _ (List.getElem_mem _)
  generalize zs.getD a 0 = x at *
  by_cases hx : x = 244 ∨ x = 245 ∨ x = 246
  · rw [if_pos hx] at h
    simp only [Prod.mk.injEq] at h
    obtain ⟨h1, h2, _, h4⟩ := h
    rcases hx with rfl | rfl | rfl <;> simp at h1 h2 <;> omega
  rw [if_neg hx] at h
  by_cases hbad : 6 < 1 + x / 32 ∨ 27 < x % 32
  · rw [if_pos hbad] at h; simp at h
  rw [if_neg hbad] at h
  by_cases hlow : x % 32 < 24
  · rw [if_pos hlow] at h
    simp only [Prod.mk.injEq] at h
    omega
  rw [if_neg hlow] at h
  obtain ⟨j, hj⟩ : ∃ j : Nat, x % 32 - 24 = j := ⟨(x % 32 - 24).toNat, by omega⟩
  rw [hj, Int.toNat_natCast] at h
  by_cases hsh : N < a + 1 + 2 ^ j
  · rw [if_pos hsh] at h; simp at h
  rw [if_neg hsh] at h
  by_cases hok : argSz (widN zs a (2 ^ j)) = ((2 ^ j : Nat) : Int)
  · rw [if_pos hok] at h
    simp only [Prod.mk.injEq] at h
    have hj4 : j = 0 ∨ j = 1 ∨ j = 2 ∨ j = 3 := by omega
    have hbd := beTo_bd ((zs.drop (a + 1)).take (2 ^ j)) (fun z hz => hr z (List.mem_of_mem_drop (List.mem_of_mem_take hz))) (2 ^ j) (by simp; omega)
    have hw : widN zs a (2 ^ j) = beTo ((zs.drop (a + 1)).take (2 ^ j)) (2 ^ j) := rfl
    rw [← hw] at hbd
    obtain ⟨h1, h2, _, h4⟩ := h
    rw [h2] at hbd
    rcases hj4 with rfl | rfl | rfl | rfl <;> simp at hbd h4 hsh <;> omega
  · rw [if_neg hok] at h; simp at h
end Go.Proofs.YtepinmeidjlmmaaDoor

/- A region that draws its order, walked in one order: what holds of the world may be strengthened on the way. -/
namespace Go.Proofs.YtepinmeidjlmmaaDoor
open Go.RowKit

theorem wpAnyH_mono {P : Program} {md : Region.Mode} {ops : Array Oper} {Q : Exit → Act → World → Prop} {S S' : World → Prop} (h : ∀ w, S' w → S w) :
    ∀ (fuel : Nat) (listed : Array Bool) (a : Act) (w : World), wpAnyH P md ops Q S' fuel listed a w → wpAnyH P md ops Q S fuel listed a w
  | 0, _, _, _, hh => hh
  | fuel + 1, _, _, _, hh => ⟨hh.1, fun i hi => wpOp_mono (fun a' w' h' => ⟨h w' h'.1, wpAnyH_mono h fuel _ a' w' h'.2⟩) (hh.2 i hi)⟩
/-- from here on: what has been there stays as it is -/
theorem held_from {P : Program} {md : Region.Mode} {ops : Array Oper} {Q : Exit → Act → World → Prop} {S : World → Prop} {fuel : Nat} {listed : Array Bool} {a : Act} {w : World}
    (hS : ∀ W, Below w.heap.size w W → S W) (h : wpAnyH P md ops Q (fun W => Below w.heap.size w W) fuel listed a w) : wpAnyH P md ops Q S fuel listed a w :=
  wpAnyH_mono hS fuel listed a w h
section
variable {P : Program} {md : Region.Mode} {ops : Array Oper} {Q : Exit → Act → World → Prop} {fuel : Nat} {listed : Array Bool} {a : Act} {w : World}
/-- one that may come up alone comes up: a call -/
theorem held_call {i : Nat} {o : Oper} (hr : Region.ready md ops listed = [i]) (ho : ops[i]? = some o)
    (h : ∀ K' : Act → World → Prop, Shut (∀ a w', Below w.heap.size w w' → wpAnyH P md ops Q (fun W => Below w'.heap.size w' W) fuel (listed.setIfInBounds i true) a w' → K' a w') → if Region.wanted o (yielded ops a.tmps) = true then Oper.wp P o a w K' Q else K' (a.put o.dst undef) w) :
    wpAnyH P md ops Q (fun W => Below w.heap.size w W) (fuel + 1) listed a w := by
  refine wpAnyH_all hr (by simp) fun j hj => ?_
  obtain rfl : j = i := by simpa using hj
  refine wpOp_step ho fun K' hK => h K' fun a w' hb hh => hK a w' ⟨hb, wpAnyH_mono (fun W hW => hb.trans (hW.mono hb.size)) _ _ _ _ hh⟩
/-- one that yields its value whatever comes is taken first -/
theorem held_take {i d : Nat} {oi : Oper} {v : Value} (hi : ops[i]? = some oi) (hd : oi.dst = some d) (hs : Region.noSelect ops = true) (hf : Region.free md ops listed i = true) (hr : (Region.ready md ops listed).contains i = true)
    (hQ : ∀ c a w, Q (.panic c) (a.put (some d) v) w → Q (.panic c) a w) (hw : Region.wanted oi (yielded ops a.tmps) = true) (hy : ∀ W, Below w.heap.size w W → (execOp a.eval oi).run P W = .ok (.value v) W)
    (h : wpAnyH P md ops Q (fun W => Below w.heap.size w W) fuel (listed.setIfInBounds i true) (a.put (some d) v) w) : wpAnyH P md ops Q (fun W => Below w.heap.size w W) (fuel + 1) listed a w :=
  wpAnyH_take hi hs hf hr (by rw [hd]; exact hQ) (Or.inl ⟨hw, hy⟩) (Below.refl _ _) (by rw [hd]; exact h)
/-- the beginning -/
theorem held_begin {id : Nat} (hm : P.follows .mixedOrders = true) (h : wpAnyH P .any ops Q (fun W => Below w.drew.heap.size w.drew W) ops.size (Array.replicate ops.size false) a w.drew) : (Code.region id ops true).wp P Q a w :=
  wp_region_held hm h
end
end Go.Proofs.YtepinmeidjlmmaaDoor
