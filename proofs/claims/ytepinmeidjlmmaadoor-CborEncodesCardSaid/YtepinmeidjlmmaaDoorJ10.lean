/- Joined: F5, F6, F7, F8, G1, T1, T2. -/
import Derived.Test.YtepinmeidjlmmaaDoorJ9
import Derived.Test.YtepinmeidjlmmaaDoorJ5
import Derived.Deep.Slices
import Derived.Test.YtepinmeidjlmmaaDoorJ3
import Derived.Deep.QuietTactic
namespace Go.Proofs.YtepinmeidjlmmaaDoor
open Go.RowKit

theorem walkE_bad {f : Nat} {l : List It} {a dep : Nat} {key : Bool} {bf : ByteArray} {x : It} (hx : l[a]? = some x) (hc : checkRE a dep key bf x.k x.n x.d ≠ 0) : walkE (f + 1) l a dep key bf = (a, checkRE a dep key bf x.k x.n x.d) := by
  rw [walkE, hx]; simp only; rw [if_pos hc]
theorem walkE_leaf {f : Nat} {l : List It} {a dep : Nat} {key : Bool} {bf : ByteArray} {x : It} (hx : l[a]? = some x) (hc : checkRE a dep key bf x.k x.n x.d = 0) (hk : ¬ (x.k = 5 ∨ x.k = 6)) : walkE (f + 1) l a dep key bf = (a + 1, 0) := by
  rw [walkE, hx]; simp only; rw [if_neg (by simp [hc]), if_neg hk]
theorem walkE_nest {f : Nat} {l : List It} {a dep : Nat} {key : Bool} {bf : ByteArray} {x : It} (hx : l[a]? = some x) (hc : checkRE a dep key bf x.k x.n x.d = 0) (hk : x.k = 5 ∨ x.k = 6) :
    walkE (f + 1) l a dep key bf = loopE (fun a2 k2 b2 => walkE f l a2 (dep + 1) k2 b2) l (x.k == 6) x.n.toNat (a + 1) ⟨#[]⟩ := by
  rw [walkE, hx]; simp only; rw [if_neg (by simp [hc]), if_pos hk]

theorem sim (l : List It) (hpos : ∀ x ∈ l, 0 ≤ x.n) : ∀ (f dep : Nat), f + dep = 9 → ∀ (a : Nat) (s : List Lv) (bf : ByteArray), s.length = dep → compB a s = false → KeyRel s bf →
    validGo a s (l.drop a) = fin l s a (walkE (f + 1) l a dep (atKeyB s) bf) := by
  intro f
  induction f with
  | zero =>
    intro dep hf a s bf hs hc hr
    by_cases ha : a < l.length
    · have hx : l[a]? = some l[a] := List.getElem?_eq_getElem ha
      rw [drop_at ha]
      generalize l[a] = x at hx
      have hck := check_same (k := x.k) (n := x.n) (d := x.d) hc hr
      rw [hs] at hck
      have hne : checkRE a dep (atKeyB s) bf x.k x.n x.d ≠ 0 := by
        intro h
        have := (checkR_zero h).2.2.2.1
        omega
      rw [walkE_bad hx hne, validGo, hck, if_neg hne]
      simp [fin, hne]
    · have hx : l[a]? = none := List.getElem?_eq_none (by omega)
      rw [List.drop_eq_nil_of_le (by omega), validGo, if_neg (by simp [hc]), walkE, hx]
      simp [fin]
  | succ f ih =>
    intro dep hf a s bf hs hc hr
    by_cases ha : a < l.length
    · have hx : l[a]? = some l[a] := List.getElem?_eq_getElem ha
      have hp := hpos l[a] (List.getElem_mem ha)
      rw [drop_at ha]
      generalize l[a] = x at hx hp
      have hck := check_same (k := x.k) (n := x.n) (d := x.d) hc hr
      rw [hs] at hck
      by_cases hz : checkRE a dep (atKeyB s) bf x.k x.n x.d = 0
      · rw [validGo, hck, if_pos hz]
        by_cases hk : x.k = 5 ∨ x.k = 6
        · rw [walkE_nest hx hz hk]
          have hlen : (lessS (keyS s x.k x.n x.d)).length = dep := by rw [lessS_len, keyS_len, hs]
          have hdone : doneAt l s a = popAll (lessS (keyS s x.k x.n x.d)) := by simp [doneAt, hx]
          have H := ih (dep + 1) (by omega)
          by_cases hn : x.n = 0
          · have hp0 : ¬ 0 < partsN x.k x.n := by rw [hn]; unfold partsN; split <;> (try split) <;> omega
            rw [hn]
            simp only [Int.toNat_zero, loopE]
            rw [fin, if_neg (by simp), hdone, enterS, ← hn, pushed_no hp0]
          · obtain ⟨c, hcn⟩ : ∃ c : Nat, x.n = (c : Int) + 1 := ⟨x.n.toNat - 1, by omega⟩
            have hp1 : 0 < partsN x.k x.n := by
              unfold partsN
              rcases hk with h | h
              · rw [if_pos h]; omega
              · rw [if_neg (by omega), if_pos h]; omega
            have hN : x.n.toNat = c + 1 := by omega
            rw [hN, enterS, pushed_yes hp1]
            have hpop : popAll (newLv x.k x.n :: lessS (keyS s x.k x.n x.d)) = newLv x.k x.n :: lessS (keyS s x.k x.n x.d) := by
              rw [popAll, if_neg (by show partsN x.k x.n ≠ 0; omega)]
            rw [hpop]
            have hfin : ∀ r, fin l s a r = finL l (lessS (keyS s x.k x.n x.d)) r := fun r => by unfold fin finL; rw [hdone]
            rw [hfin]
            rcases hk with h | h
            · have e6 : (x.k == 6) = false := by simp [h]
              rw [e6]
              exact loop_arr l f dep H c (a + 1) (newLv x.k x.n) _ _ (by simp [newLv, h]) (by show partsN x.k x.n = _; unfold partsN; rw [if_pos h]; omega) hlen
            · have e6 : (x.k == 6) = true := by simp [h]
              rw [e6]
              exact loop_map l f dep H c (a + 1) (newLv x.k x.n) _ _ (by simp [newLv, h]) (by show partsN x.k x.n = _; unfold partsN; rw [if_neg (by omega), if_pos h]; omega) hlen (by simp [newLv]) (.inl ⟨rfl, by rw [Lib.toList_data]; rfl⟩)
        · have hp0 : ¬ 0 < partsN x.k x.n := by unfold partsN; rw [if_neg (fun h => hk (.inl h)), if_neg (fun h => hk (.inr h))]; omega
          rw [walkE_leaf hx hz hk, fin, if_neg (by simp), enterS, pushed_no hp0]
          simp [doneAt, hx]
      · rw [walkE_bad hx hz, validGo, hck, if_neg hz]
        simp [fin, hz]
    · have hx : l[a]? = none := List.getElem?_eq_none (by omega)
      rw [List.drop_eq_nil_of_le (by omega), validGo, if_neg (by simp [hc]), walkE, hx]
      simp [fin]

theorem loopE_mono (W : Nat → Bool → ByteArray → Nat × Int) (l : List It) (mp : Bool) (hW : ∀ a k b, (W a k b).2 = 0 → a ≤ (W a k b).1) : ∀ (c a : Nat) (last : ByteArray), (loopE W l mp c a last).2 = 0 → a ≤ (loopE W l mp c a last).1 := by
  intro c
  induction c with
  | zero => intro a last _; simp [loopE]
  | succ c ih =>
    intro a last h
    rw [loopE] at h ⊢
    cases mp with
    | true =>
      simp only [if_true] at h ⊢
      by_cases h1 : (W a true last).2 = 0
      · rw [if_neg (by simp [h1])] at h ⊢
        by_cases h2 : (W (W a true last).1 false ⟨#[]⟩).2 = 0
        · rw [if_neg (by simp [h2])] at h ⊢
          exact Nat.le_trans (hW _ _ _ h1) (Nat.le_trans (hW _ _ _ h2) (ih _ _ h))
        · rw [if_pos h2] at h; exact absurd h h2
      · rw [if_pos h1] at h; exact absurd h h1
    | false =>
      simp only [Bool.false_eq_true, if_false] at h ⊢
      by_cases h1 : (W a false ⟨#[]⟩).2 = 0
      · rw [if_neg (by simp [h1])] at h ⊢
        exact Nat.le_trans (hW _ _ _ h1) (ih _ _ h)
      · rw [if_pos h1] at h; exact absurd h h1
theorem walkE_mono (l : List It) : ∀ (f a dep : Nat) (key : Bool) (bf : ByteArray), (walkE f l a dep key bf).2 = 0 → a + 1 ≤ (walkE f l a dep key bf).1 := by
  intro f
  induction f with
  | zero => intro a dep key bf h; simp [walkE] at h
  | succ f ih =>
    intro a dep key bf h
    obtain ⟨x, hx, hc⟩ := walkE_ok h
    by_cases hk : x.k = 5 ∨ x.k = 6
    · rw [walkE_nest hx hc hk] at h ⊢
      exact loopE_mono _ _ _ (fun a2 k2 b2 h2 => by have := ih a2 (dep + 1) k2 b2 h2; omega) _ _ _ h
    · rw [walkE_leaf hx hc hk]; simp

/-- the reference's Validate -/
def validR (l : List It) : Int := if (walkE 10 l 0 0 false ⟨#[]⟩).2 ≠ 0 then (walkE 10 l 0 0 false ⟨#[]⟩).2 else if (walkE 10 l 0 0 false ⟨#[]⟩).1 < l.length then 2 else 0
theorem valid_same (l : List It) (hpos : ∀ x ∈ l, 0 ≤ x.n) : validE l = validR l := by
  have h := sim l hpos 9 0 rfl 0 [] ⟨#[]⟩ rfl rfl (fun h => by cases h)
  rw [List.drop_zero] at h
  unfold validE validR
  rw [h, show atKeyB [] = false from rfl]
  by_cases he : (walkE 10 l 0 0 false ⟨#[]⟩).2 = 0
  · have hm := walkE_mono l 10 0 0 false ⟨#[]⟩ he
    obtain ⟨x, hx, _⟩ := walkE_ok he
    have hd : doneAt l [] 0 = [] := by simp [doneAt, hx, keyS, lessS, popAll]
    rw [fin, if_neg (by simp [he]), if_neg (by simp [he]), hd]
    generalize (walkE 10 l 0 0 false ⟨#[]⟩).1 = m at hm
    have hcb : compB m [] = true := by simp [compB]; omega
    by_cases hl : m < l.length
    · rw [if_pos hl, drop_at hl, validGo, check2 hcb]
      rfl
    · rw [if_neg hl, List.drop_eq_nil_of_le (by omega), validGo, if_pos hcb]
  · rw [fin, if_pos he, if_pos he]

end Go.Proofs.YtepinmeidjlmmaaDoor

namespace Go.Proofs.YtepinmeidjlmmaaDoor
open Go.RowKit

theorem items_len {w : World} {B : Nat} {a : Option Addr} {len cap : Nat} {l : List It} (hI : ItemsAt w B (.slice a len cap) l) : len = l.length := by
  rcases hI.form with ⟨h, h2⟩ | ⟨b, off, c, h, _⟩
  · cases h; rw [h2]; rfl
  · cases h; rfl

set_option maxRecDepth 100000 in
set_option maxHeartbeats 400000 in
theorem validR_of (r : Nat × Int) (n : Nat) (a : Option Addr) (cap : Nat) (w : World)
    (hC : Calls Tryd.prog 42 #[.slice a n cap, .int .i64 0, .int .i64 0, .bool false, .string ⟨#[]⟩] w (WalkPost w r)) :
    Calls Tryd.prog 19 #[.slice a n cap] w fun e w' => e = .returned (.int .i64 (if r.2 ≠ 0 then r.2 else if r.1 < n then 2 else 0)) ∧ Below w.heap.size w w' := by
  obtain ⟨m, e⟩ := r
  have HC := Lib.hid hC
  clear hC
  by_cases he : e = 0
  · subst he
    by_cases hm : m < n
    · have h1 : (m : Int) < (n : Int) := by omega
      rw [if_neg (by simp), if_pos hm]
      go_enter Tryd.func19, Tryd.ntmps19
      go_wp2_with (go_at_call 42; refine HC.out.mono ?_; rintro e w1 ⟨rfl, hb1⟩)
      go_ret
      exact ⟨rfl, hb1⟩
    · have h1 : ¬ (m : Int) < (n : Int) := by omega
      rw [if_neg (by simp), if_neg hm]
      go_enter Tryd.func19, Tryd.ntmps19
      go_wp2_with (go_at_call 42; refine HC.out.mono ?_; rintro e w1 ⟨rfl, hb1⟩)
      go_ret
      exact ⟨rfl, hb1⟩
  · rw [if_pos he]
    go_enter Tryd.func19, Tryd.ntmps19
    go_wp2_with (go_at_call 42; refine HC.out.mono ?_; rintro e w1 ⟨rfl, hb1⟩)
    go_ret
    exact ⟨rfl, hb1⟩
theorem validR_any (l : List It) (v : Value) (w : World) (hI : ItemsAt w w.heap.size v l) (ht : Tabs w) :
    Calls Tryd.prog 19 #[v] w fun e w' => e = .returned (.int .i64 (validR l)) ∧ Below w.heap.size w w' := by
  have hC := walk_any l v 9 0 rfl 0 false ⟨#[]⟩ w hI ht
  rcases hI.form with ⟨rfl, hl⟩ | ⟨b, off, cap, rfl, _⟩
  · have h := validR_of _ 0 none 0 w hC
    have e : l.length = 0 := by rw [hl]; rfl
    unfold validR
    rw [e]
    exact h
  · exact validR_of _ l.length _ cap w hC

theorem validGo_shape : ∀ (l : List It) (c : Nat) (s : List Lv), validGo c s l = 0 → ∀ x ∈ l, shapeB x.k x.n x.d = true
  | [], _, _, _ => by simp
  | x :: r, c, s, h => by
    rw [validGo] at h
    by_cases hz : checkE c s x.k x.n x.d = 0
    · rw [if_pos hz] at h
      have hs : shapeB x.k x.n x.d = true := by
        cases hc : compB c s with
        | true => rw [check2 hc] at hz; cases hz
        | false =>
          by_cases hp : placeE c s x.k = 0
          · cases h5 : shapeB x.k x.n x.d with
            | true => rfl
            | false => rw [check4 hc hp h5] at hz; cases hz
          · rw [checkP hc hp] at hz; exact absurd hz hp
      intro y hy
      rcases List.mem_cons.1 hy with rfl | hy
      · exact hs
      · exact validGo_shape r _ _ h y hy
    · rw [if_neg hz] at h; exact absurd h hz

def encAllR (l : List It) : List Int := l.flatMap fun x => dataI (bytesS x.k x.n x.d)
theorem encAllR_take {l : List It} {j : Nat} (h : j < l.length) : encAllR (l.take (j + 1)) = encAllR (l.take j) ++ dataI (bytesS l[j].k l[j].n l[j].d) := by
  rw [List.take_succ_eq_append_getElem h, encAllR, List.flatMap_append]; simp [encAllR]
theorem bytesS_len (k n : Int) (d : ByteArray) : (bytesS k n d).size ≤ 10 + d.size := by
  have e : (bytesS k n d).size = (headR k n d).length + d.size := by
    rw [bytesS, ByteArray.size_append, strOfNums_size]
  have hlen : (headR k n d).length ≤ 9 := by
    unfold headR
    split
    · simp
    split
    · simp
    exact encHead_len _ _
  omega
theorem encAllR_len : ∀ {l : List It}, (∀ x ∈ l, Sound x) → (encAllR l).length ≤ l.length * 1034
  | [], _ => by simp [encAllR]
  | x :: r, h => by
    have h1 := encAllR_len (l := r) fun y hy => h y (List.mem_cons_of_mem _ hy)
    have h2 := bytesS_len x.k x.n x.d
    have h3 := (h x (by simp)).2.2.2.2
    have e : encAllR (x :: r) = dataI (bytesS x.k x.n x.d) ++ encAllR r := by simp [encAllR]
    rw [e, List.length_append, dataI_len, List.length_cons]
    omega

/-- both encodings read as one string -/
theorem enc_same_item {x : It} (hs : Sound x) (hsh : shapeB x.k x.n x.d = true) : Lib.bytesOf (dataI (bytesS x.k x.n x.d)) = Lib.bytesOf (encItem x.k x.n x.d) := by
  rw [bytesOf_data, ← Lib.toList_data]
  by_cases hk : x.k ≤ 6
  · exact bytesS_enc hk
  · have hnd : hasDataB x.k = false := by simp [hasDataB]; omega
    have he : x.d.toList.isEmpty = true := by
      cases he : x.d.toList.isEmpty with
      | true => rfl
      | false => rw [shape_bad he hnd] at hsh; cases hsh
    have hd : x.d.data.toList = [] := by rw [Lib.toList_data] at he; simpa using he
    rw [bytesS_list, hd, List.append_nil]
    have h8 := hs.2.2.1
    by_cases h7 : x.k = 7
    · rw [h7, encItem7]; simp [headR]
    · have h8 : x.k = 8 := by omega
      rw [h8, encItem8]; simp [headR]
theorem bytesOf_app (a b : List Int) : Lib.bytesOf (a ++ b) = Lib.bytesOf a ++ Lib.bytesOf b := by simp [Lib.bytesOf]
theorem enc_same : ∀ (l : List It), (∀ x ∈ l, Sound x) → (∀ x ∈ l, shapeB x.k x.n x.d = true) → Lib.bytesOf (encAllR l) = Lib.bytesOf (encAll l)
  | [], _, _ => rfl
  | x :: r, h, h2 => by
    have e1 : encAllR (x :: r) = dataI (bytesS x.k x.n x.d) ++ encAllR r := by simp [encAllR]
    have e2 : encAll (x :: r) = encItem x.k x.n x.d ++ encAll r := by simp [encAll]
    rw [e1, e2, bytesOf_app, bytesOf_app, enc_same_item (h x (by simp)) (h2 x (by simp)), enc_same r (fun y hy => h y (List.mem_cons_of_mem _ hy)) (fun y hy => h2 y (List.mem_cons_of_mem _ hy))]
theorem strOf_same {l : List It} (h : ∀ x ∈ l, Sound x) (h2 : ∀ x ∈ l, shapeB x.k x.n x.d = true) : strOfNums (encAllR l) = strOfNums (encAll l) := by
  have e := enc_same l h h2
  apply ByteArray.ext
  apply Array.toList_inj.1
  exact e

set_option maxRecDepth 100000 in
set_option maxHeartbeats 1000000 in
theorem encodeR_bad (l : List It) (v : Value) (w : World) (hI : ItemsAt w w.heap.size v l) (ht : Tabs w) (hz : validR l ≠ 0) :
    Calls Tryd.prog 17 #[v] w fun e w' => e = .returned (.tuple #[.slice none 0 0, .int .i64 (validR l)]) ∧ Below w.heap.size w w' := by
  have HV := Lib.hid (validR_any l v w hI ht)
  have hzb : (validR l != 0) = true := by simpa using hz
  clear hI ht hz
  go_enter Tryd.func17, Tryd.ntmps17
  go_wp2_with (go_at_call 19; refine HV.out.mono ?_; rintro e w1 ⟨rfl, hb1⟩)
  go_ret2
  exact ⟨rfl, hb1⟩

set_option maxRecDepth 100000 in
set_option maxHeartbeats 1000000 in
theorem encodeR_good (l : List It) (v : Value) (w : World) (hI : ItemsAt w w.heap.size v l) (ht : Tabs w) (hz : validR l = 0) (hS : ∀ x ∈ l, Sound x) (hlen : l.length ≤ 512) :
    Calls Tryd.prog 17 #[v] w fun e w' => ∃ v', e = .returned (.tuple #[v', .int .i64 0]) ∧ NewBytes w (encAllR l) v' w' := by
  have hzb : (validR l != 0) = false := by simpa using hz
  have HV := Lib.hid (validR_any l v w hI ht)
  have HZ := Lib.hid hz
  have HS := Lib.hid hS
  have hlen0 : 0 < l.length := by
    cases l with
    | nil => exact absurd hz (by decide)
    | cons a b => simp
  obtain ⟨b, off, cap, rfl, hb, hcells⟩ : ∃ b off cap, v = .slice (some ⟨b, off, none⟩) l.length cap ∧ b < w.heap.size ∧ ∀ i (h : i < l.length), w.cell? ⟨b, off + i * 3, none⟩ = some (.int .i64 l[i].k) ∧ w.cell? ⟨b, off + i * 3 + 1, none⟩ = some (.int .u64 l[i].n) ∧ w.cell? ⟨b, off + i * 3 + 2, none⟩ = some (.string l[i].d) := by
    rcases hI.form with ⟨_, h⟩ | h
    · rw [h] at hlen0; cases hlen0
    · exact h
  have HC := Lib.hid hcells
  clear hcells hI ht hz hS
  go_enter Tryd.func17, Tryd.ntmps17
  go_wp2_with (go_at_call 19; refine HV.out.mono ?_; rintro e w1 ⟨rfl, hb1⟩)
  have HB1 := Lib.hid hb1
  clear hb1
  go_loopw [5, 6] (fun v i wr => ∃ j : Nat, j ≤ l.length ∧ i = .int .i64 j ∧ wr.ownsRow w.heap.size 5 1 v (encAllR (l.take j)).length (bv (encAllR (l.take j))) ∧ Below w.heap.size w wr) (fun _ i _ => l.length - (intOf i).toNat)
  case atStart => exact ⟨0, by omega, rfl, World.ownsRow_nil _ _ _ _, HB1.out⟩
  case round =>
    obtain ⟨j, hj, rfl, ho, hbw⟩ := hrel
    have HO := Lib.hid ho
    have HB := Lib.hid hbw
    have hsz : w.heap.size ≤ wr.heap.size := hbw.size
    have hbr : b < wr.heap.size := by omega
    clear ho hbw
    by_cases hlt : j < l.length
    · obtain ⟨c0, c1, c2⟩ := HC.out j hlt
      have q0 := (HB.out.cell (p := ⟨b, off + j * 3, none⟩) hb).trans c0
      have q1 := (HB.out.cell (p := ⟨b, off + j * 3 + 1, none⟩) hb).trans c1
      have q2 := (HB.out.cell (p := ⟨b, off + j * 3 + 2, none⟩) hb).trans c2
      clear c0 c1 c2
      have hx := HS.out l[j] (List.getElem_mem hlt)
      have htk := encAllR_take hlt
      have HTK := Lib.hid htk
      have hln : (encAllR (l.take j)).length ≤ 900000 := by
        have h1 := encAllR_len (l := l.take j) (fun y hy => HS.out y (List.mem_of_mem_take hy))
        have h2 : (l.take j).length ≤ 512 := by rw [List.length_take]; omega
        have h3 : (l.take j).length * 1034 ≤ 512 * 1034 := Nat.mul_le_mul_right _ h2
        omega
      clear htk
      generalize l[j] = x at q0 q1 q2 hx HTK
      obtain ⟨k, n, d⟩ := x
      simp only [Sound] at q0 q1 q2 hx
      have hbs := bytesS_len k n d
      have hbs2 : (bytesS k n d).size ≤ 1000000000 := by omega
      have HCK := Lib.hid (bytesR_any k n d wr hx.2.1 hx.2.2.1 hx.1 hx.2.2.2.1 (by omega))
      clear hx hbs
      go_wp2_with (first | (go_at_call 38; refine HCK.out.mono ?_; rintro e w2 ⟨rfl, hb2⟩) | (at_builtin; refine app_str rfl _ _ rfl w.heap.size _ _ _ (bytesS k n d) (own_below HO.out hb2) rfl rfl (by omega) hbs2 (Nat.le_trans hsz hb2.size) ?_; intro v3 w3 ho3 hb3 _))
      go_roundw
      case rel => exact ⟨j + 1, by omega, by go_num, by rw [HTK.out, List.length_append, bv_app, dataI_cells, dataI_len]; exact ho3, (below_aft HB.out hb2).trans hb3⟩
      case measure => simp [intOf]; omega
    · have hjl : j = l.length := by omega
      subst hjl
      go_wp2
      go_ret2
      exact ⟨_, rfl, by have h := HO.out; rwa [List.take_length] at h, HB.out⟩

end Go.Proofs.YtepinmeidjlmmaaDoor

namespace Go.Proofs.YtepinmeidjlmmaaDoor
open Go.RowKit

set_option maxRecDepth 100000 in
set_option maxHeartbeats 400000 in
theorem light_long (a : Option Addr) (len cap : Nat) (w : World) (h : 100 < len) : Calls Tryd.prog 14 #[.slice a len cap] w fun e w' => e = .returned (.bool false) ∧ w = w' := by
  have h1 : (100 : Int) < (len : Int) := by omega
  go_enter Tryd.func14, Tryd.ntmps14
  go_wp2
  go_ret
  exact ⟨rfl, rfl⟩

set_option maxRecDepth 100000 in
set_option maxHeartbeats 400000 in
theorem light_any (l : List It) (v : Value) (w : World) (hI : ItemsAt w w.heap.size v l) (h : l.length ≤ 100) :
    Calls Tryd.prog 14 #[v] w fun e w' => e = .returned (.bool (l.all fun x => decide (x.d.size ≤ 1100))) ∧ w = w' := by
  rcases hI.form with ⟨rfl, rfl⟩ | ⟨b, off, cap, rfl, hb, hcells⟩
  · clear hI
    go_enter Tryd.func14, Tryd.ntmps14
    go_wp2_with fail
    refine wp_loop_rounds 1 ?_
    rw [rounds_succ]
    go_wp2
    go_ret
    exact ⟨rfl, rfl⟩
  · have h1 : (l.length : Int) ≤ 100 := by omega
    have HC := Lib.hid hcells
    clear hI hcells
    go_enter Tryd.func14, Tryd.ntmps14
    go_wp2_with fail
    go_loopw [3] (fun i wr => ∃ j : Nat, j ≤ l.length ∧ i = .int .i64 j ∧ w = wr ∧ ∀ i (h : i < l.length), i < j → l[i].d.size ≤ 1100) (fun i _ => l.length - (intOf i).toNat)
    case atStart => exact ⟨0, by omega, rfl, rfl, by intro i h1 h2; omega⟩
    case round =>
      obtain ⟨j, hj, rfl, rfl, hall⟩ := hrel
      have HALL := Lib.hid hall
      clear hall
      by_cases hlt : j < l.length
      · obtain ⟨q0, q1, q2⟩ := HC.out j hlt
        have hxe : Hid (∃ x, l[j] = x) := ⟨_, rfl⟩
        by_cases hs : l[j].d.size ≤ 1100
        · have HN : Hid (∀ i (h : i < l.length), i < j + 1 → l[i].d.size ≤ 1100) := fun i h1 h2 => by
            by_cases e : i = j
            · subst e; exact hs
            · exact HALL.out i h1 (by omega)
          have hs2 : (l[j].d.size : Int) ≤ 1100 := by omega
          generalize l[j] = x at q0 q1 q2 hs hs2
          go_wp2_with fail
          go_roundw
          case rel => exact ⟨j + 1, by omega, by go_num, by first | rfl | trivial, HN.out⟩
          case measure => simp [intOf]; omega
        · have HN : Hid ((l.all fun x => decide (x.d.size ≤ 1100)) = false) := by
            show (l.all fun x => decide (x.d.size ≤ 1100)) = false
            rw [List.all_eq_false]
            exact ⟨l[j], List.getElem_mem hlt, by simpa using hs⟩
          have hs2 : (1100 : Int) < (l[j].d.size : Int) := by omega
          generalize l[j] = x at q0 q1 q2 hs hs2
          go_wp2
          go_ret
          exact ⟨by rw [HN.out]; rfl, rfl⟩
      · have HN : Hid ((l.all fun x => decide (x.d.size ≤ 1100)) = true) := by
          show (l.all fun x => decide (x.d.size ≤ 1100)) = true
          rw [List.all_eq_true]
          intro x hx
          obtain ⟨i, hi, rfl⟩ := List.mem_iff_getElem.1 hx
          have := HALL.out i hi (by omega)
          simpa using this
        go_wp2
        go_ret
        exact ⟨by rw [HN.out]; rfl, rfl⟩

set_option maxRecDepth 100000 in
set_option maxHeartbeats 400000 in
/-- a list that is not light: the law answers what 'awake' answers -/
theorem validates_dark (v : Value) (w : World) (ht : Tabs w) (hL : Calls Tryd.prog 14 #[v] w fun e w' => e = .returned (.bool false) ∧ w = w') : Calls Tryd.prog 3 #[v] w fun e w' => e = .returned (.bool true) ∧ Below w.heap.size w w' := by
  have HA := Lib.hid (awake_any w ht)
  have HL := Lib.hid hL
  clear ht hL
  go_enter Tryd.func3, Tryd.ntmps3
  go_wp2_with (first | (go_at_call 14; refine HL.out.mono ?_; rintro e w1 ⟨rfl, rfl⟩) | (go_at_call 15; refine HA.out.mono ?_; rintro e w1 ⟨rfl, hb1⟩))
  go_ret
  exact ⟨rfl, hb1⟩

theorem conv_nil (W : World) : (convert 25 9 (.slice none 0 0)).run Tryd.prog W = .ok (.string ByteArray.empty) W := run_convert_bytes_nil W 25 5 Tryd.underlying25 Tryd.underlying5 0 0 9 Tryd.underlying9

set_option maxRecDepth 100000 in
set_option maxHeartbeats 1000000 in
theorem validates_bad (v : Value) (E : Int) (w : World) (hE : E ≠ 0) (hL : Calls Tryd.prog 14 #[v] w fun e w' => e = .returned (.bool true) ∧ w = w')
    (hA : ∀ W, Below w.heap.size w W → Calls Tryd.prog 15 #[] W fun e w' => e = .returned (.bool true) ∧ Below W.heap.size W w')
    (h16 : ∀ W, Below w.heap.size w W → Calls Tryd.prog 16 #[v] W fun e w' => e = .returned (.tuple #[.slice none 0 0, .int .i64 E]) ∧ Below W.heap.size W w')
    (h17 : ∀ W, Below w.heap.size w W → Calls Tryd.prog 17 #[v] W fun e w' => e = .returned (.tuple #[.slice none 0 0, .int .i64 E]) ∧ Below W.heap.size W w')
    (h18 : ∀ W, Below w.heap.size w W → Calls Tryd.prog 18 #[v] W fun e w' => e = .returned (.int .i64 E) ∧ Below W.heap.size W w')
    (h19 : ∀ W, Below w.heap.size w W → Calls Tryd.prog 19 #[v] W fun e w' => e = .returned (.int .i64 E) ∧ Below W.heap.size W w') :
    Calls Tryd.prog 3 #[v] w fun e w' => e = .returned (.bool true) ∧ Below w.heap.size w w' := by
  have HL := Lib.hid hL
  have HA := Lib.hid hA
  have H16 := Lib.hid h16
  have H17 := Lib.hid h17
  have H18 := Lib.hid h18
  have H19 := Lib.hid h19
  have hcn := conv_nil
  clear hL hA h16 h17 h18 h19
  go_enter Tryd.func3, Tryd.ntmps3
  go_wp2_with (go_at_call 14; refine HL.out.mono ?_; rintro e w1 ⟨rfl, rfl⟩)
  refine (H16.out _ (Below.refl _ _)).mono ?_
  rintro e w2 ⟨rfl, hb2⟩
  go_wp2_with fail
  refine (H17.out _ hb2).mono ?_
  rintro e w3 ⟨rfl, hb3⟩
  have hB3 := below_aft hb2 hb3
  go_wp2_with fail
  refine (H18.out _ hB3).mono ?_
  rintro e w4 ⟨rfl, hb4⟩
  have hB4 := below_aft hB3 hb4
  go_wp2_with fail
  refine (H19.out _ hB4).mono ?_
  rintro e w5 ⟨rfl, hb5⟩
  have hB5 := below_aft hB4 hb5
  go_wp2_with fail
  refine (HA.out _ hB5).mono ?_
  rintro e w6 ⟨rfl, hb6⟩
  go_wp2
  go_ret
  exact ⟨rfl, below_aft hB5 hb6⟩

set_option maxRecDepth 100000 in
set_option maxHeartbeats 1000000 in
theorem validates_good (v : Value) (l1 l2 : List Int) (w : World) (hp1 : 0 < l1.length) (hp2 : 0 < l2.length) (hsame : strOfNums l2 = strOfNums l1) (hL : Calls Tryd.prog 14 #[v] w fun e w' => e = .returned (.bool true) ∧ w = w')
    (hA : ∀ W, Below w.heap.size w W → Calls Tryd.prog 15 #[] W fun e w' => e = .returned (.bool true) ∧ Below W.heap.size W w')
    (h16 : ∀ W, Below w.heap.size w W → Calls Tryd.prog 16 #[v] W fun e w' => ∃ v', e = .returned (.tuple #[v', .int .i64 0]) ∧ NewBytes W l1 v' w')
    (h17 : ∀ W, Below w.heap.size w W → Calls Tryd.prog 17 #[v] W fun e w' => ∃ v', e = .returned (.tuple #[v', .int .i64 0]) ∧ NewBytes W l2 v' w')
    (h18 : ∀ W, Below w.heap.size w W → Calls Tryd.prog 18 #[v] W fun e w' => e = .returned (.int .i64 0) ∧ Below W.heap.size W w')
    (h19 : ∀ W, Below w.heap.size w W → Calls Tryd.prog 19 #[v] W fun e w' => e = .returned (.int .i64 0) ∧ Below W.heap.size W w') :
    Calls Tryd.prog 3 #[v] w fun e w' => e = .returned (.bool true) ∧ Below w.heap.size w w' := by
  have HL := Lib.hid hL
  have HA := Lib.hid hA
  have H16 := Lib.hid h16
  have H17 := Lib.hid h17
  have H18 := Lib.hid h18
  have H19 := Lib.hid h19
  clear hL hA h16 h17 h18 h19
  go_enter Tryd.func3, Tryd.ntmps3
  go_wp2_with (go_at_call 14; refine HL.out.mono ?_; rintro e w1 ⟨rfl, rfl⟩)
  refine (H16.out _ (Below.refl _ _)).mono ?_
  rintro e w2 ⟨v2, rfl, ho2, hb2⟩
  go_wp2_with fail
  refine (H17.out _ hb2).mono ?_
  rintro e w3 ⟨v3, rfl, ho3, hb3⟩
  have hB3 := below_aft hb2 hb3
  go_wp2_with fail
  refine (H18.out _ hB3).mono ?_
  rintro e w4 ⟨rfl, hb4⟩
  have hB4 := below_aft hB3 hb4
  go_wp2_with fail
  refine (H19.out _ hB4).mono ?_
  rintro e w5 ⟨rfl, hb5⟩
  have hB5 := below_aft hB4 hb5
  have k1 := conv_row (own_below (own_below (own_below ho2 hb3) hb4) hb5) hp1
  have k2 := conv_row (own_below (own_below ho3 hb4) hb5) hp2
  rw [hsame] at k2
  clear ho2 ho3
  go_wp2_with fail
  refine (HA.out _ hB5).mono ?_
  rintro e w6 ⟨rfl, hb6⟩
  go_wp2
  go_ret
  exact ⟨rfl, below_aft hB5 hb6⟩

theorem encAll_pos {l : List It} (h : 0 < l.length) (hs : ∀ x ∈ l, Sound x) (h2 : ∀ x ∈ l, shapeB x.k x.n x.d = true) : 0 < (encAll l).length ∧ 0 < (encAllR l).length := by
  have e : (encAllR l).length = (encAll l).length := by
    have := congrArg List.length (enc_same l hs h2)
    simpa [Lib.bytesOf] using this
  cases l with
  | nil => simp at h
  | cons x r =>
    have e1 : encAllR (x :: r) = dataI (bytesS x.k x.n x.d) ++ encAllR r := by simp [encAllR]
    have h3 : 0 < (dataI (bytesS x.k x.n x.d)).length := by
      have := bytesS_ne x.k x.n x.d
      rw [dataI_len]
      rcases Nat.eq_zero_or_pos (bytesS x.k x.n x.d).size with h0 | h0
      · exfalso
        have h4 : (bytesS x.k x.n x.d).data.toList = [] := by
          apply List.eq_nil_of_length_eq_zero
          rw [Array.length_toList]; exact h0
        rw [Lib.toList_data, h4] at this
        cases this
      · exact h0
    have h5 : 0 < (encAllR (x :: r)).length := by rw [e1, List.length_append]; omega
    exact ⟨by omega, h5⟩

/-- the law, for items that lie in memory as a []api.Item -/
theorem validates_any (l : List It) (v : Value) (w : World) (hI : ItemsAt w w.heap.size v l) (ht : Tabs w) (h : l.length ≤ 100) : Calls Tryd.prog 3 #[v] w fun e w' => e = .returned (.bool true) ∧ Below w.heap.size w w' := by
  have hL := light_any l v w hI h
  cases hl : (l.all fun x => decide (x.d.size ≤ 1100)) with
  | false =>
    rw [hl] at hL
    exact validates_dark v w ht hL
  | true =>
    rw [hl] at hL
    have hpos : ∀ x ∈ l, 0 ≤ x.n := fun x hx => (hI.ok x hx).1
    have hI2 : ∀ W, Below w.heap.size w W → ItemsAt W W.heap.size v l := fun W hW => itemsAt_mono (hI.below hW) hW.size
    have hA : ∀ W, Below w.heap.size w W → Calls Tryd.prog 15 #[] W fun e w' => e = .returned (.bool true) ∧ Below W.heap.size W w' := fun W hW => awake_any W (ht.later hW)
    have h18 := fun W (hW : Below w.heap.size w W) => validate_any l v W (hI2 W hW) (ht.later hW)
    have h19 := fun W (hW : Below w.heap.size w W) => validR_any l v W (hI2 W hW) (ht.later hW)
    rw [← valid_same l hpos] at h19
    by_cases hz : validE l = 0
    · have hzR : validR l = 0 := by rw [← valid_same l hpos]; exact hz
      have hS := (validGo_sound l 0 [] hpos hz).1
      have hsh := validGo_shape l 0 [] hz
      have hlen0 : 0 < l.length := by
        cases l with
        | nil => exact absurd hz (by decide)
        | cons a b => simp
      have hp := encAll_pos hlen0 hS hsh
      rw [hz] at h18 h19
      exact validates_good v (encAll l) (encAllR l) w hp.1 hp.2 (strOf_same hS hsh) hL hA (fun W hW => encode_good l v W (hI2 W hW) (ht.later hW) hz) (fun W hW => encodeR_good l v W (hI2 W hW) (ht.later hW) hzR hS (by omega)) h18 h19
    · have hzR : validR l ≠ 0 := by rw [← valid_same l hpos]; exact hz
      have h17 := fun W (hW : Below w.heap.size w W) => encodeR_bad l v W (hI2 W hW) (ht.later hW) hzR
      rw [← valid_same l hpos] at h17
      exact validates_bad v (validE l) w hz hL hA (fun W hW => encode_bad l v W (hI2 W hW) (ht.later hW) hz) h17 h18 h19

end Go.Proofs.YtepinmeidjlmmaaDoor

namespace Go.Proofs.YtepinmeidjlmmaaDoor
open Go.ChangeShapes Go.WideShapes Go.ChangeAt Go.RowKit Go.Deep

set_option maxRecDepth 100000 in
set_option maxHeartbeats 400000 in
theorem light0 (a : Option Addr) (cap : Nat) (w : World) : Calls Tryd.prog 14 #[.slice a 0 cap] w fun e w' => e = .returned (.bool true) ∧ w = w' := by
  go_enter Tryd.func14, Tryd.ntmps14
  go_wp2_with fail
  refine wp_loop_rounds 1 ?_
  rw [rounds_succ]
  go_wp2
  go_ret
  exact ⟨rfl, rfl⟩

set_option maxRecDepth 100000 in
set_option maxHeartbeats 1000000 in
theorem valid0 (a : Option Addr) (cap : Nat) (w : World) : Calls Tryd.prog 18 #[.slice a 0 cap] w fun e w' => e = .returned (.int .i64 1) ∧ Below w.heap.size w w' := by
  have HN0 : Hid (nestAt (w.alloc (.cells #[.int .i64 0, .slice none 0 0] 68)) (w.heap.size + 1) w.heap.size 0 [] (.slice none 0 0)) :=
    ⟨by simp, by simp, by simp, by simp, World.ownsRow_nil _ _ _ _, by omega, by simp, by simp, by omega, by simp⟩
  have HB0 := Lib.hid ((Below.refl w.heap.size w).alloc (Nat.le_refl _) (.cells #[.int .i64 0, .slice none 0 0] 68))
  go_enter Tryd.func18, Tryd.ntmps18
  go_wp2_with fail
  go_loopw [9] (fun i wr => i = .int .i64 0 ∧ nestAt wr (w.heap.size + 1) w.heap.size 0 [] (.slice none 0 0) ∧ Below w.heap.size w wr) (fun _ _ => 0)
  case atStart => exact ⟨rfl, HN0.out, HB0.out⟩
  case round =>
    obtain ⟨rfl, hn, hb⟩ := hrel
    have HN := Lib.hid hn
    have HB := Lib.hid hb
    clear hn hb
    have hcb : compB 0 [] = false := rfl
    go_wp2_with (go_at_call 41; refine (complete_any _ HN.out).mono ?_; rintro e w' ⟨rfl, rfl⟩)
    go_ret
    exact ⟨rfl, HB.out⟩

set_option maxRecDepth 100000 in
set_option maxHeartbeats 1000000 in
theorem encode_bad_of (v : Value) (E : Int) (w : World) (hV : Calls Tryd.prog 18 #[v] w fun e w' => e = .returned (.int .i64 E) ∧ Below w.heap.size w w') (hz : E ≠ 0) :
    Calls Tryd.prog 16 #[v] w fun e w' => e = .returned (.tuple #[.slice none 0 0, .int .i64 E]) ∧ Below w.heap.size w w' := by
  have HV := Lib.hid hV
  have hzb : (E != 0) = true := by simpa using hz
  clear hV hz
  go_enter Tryd.func16, Tryd.ntmps16
  go_wp2_with (go_at_call 18; refine HV.out.mono ?_; rintro e w1 ⟨rfl, hb1⟩)
  go_ret2
  exact ⟨rfl, hb1⟩
set_option maxRecDepth 100000 in
set_option maxHeartbeats 1000000 in
theorem encodeR_bad_of (v : Value) (E : Int) (w : World) (hV : Calls Tryd.prog 19 #[v] w fun e w' => e = .returned (.int .i64 E) ∧ Below w.heap.size w w') (hz : E ≠ 0) :
    Calls Tryd.prog 17 #[v] w fun e w' => e = .returned (.tuple #[.slice none 0 0, .int .i64 E]) ∧ Below w.heap.size w w' := by
  have HV := Lib.hid hV
  have hzb : (E != 0) = true := by simpa using hz
  clear hV hz
  go_enter Tryd.func17, Tryd.ntmps17
  go_wp2_with (go_at_call 19; refine HV.out.mono ?_; rintro e w1 ⟨rfl, hb1⟩)
  go_ret2
  exact ⟨rfl, hb1⟩

theorem validR0 (a : Option Addr) (cap : Nat) (w : World) : Calls Tryd.prog 19 #[.slice a 0 cap] w fun e w' => e = .returned (.int .i64 1) ∧ Below w.heap.size w w' :=
  validR_of (0, 1) 0 a cap w (walk_end a 0 cap 0 0 false ⟨#[]⟩ w (Nat.le_refl _))

theorem validates_empty (a : Option Addr) (cap : Nat) (w : World) (ht : Tabs w) : Calls Tryd.prog 3 #[.slice a 0 cap] w fun e w' => e = .returned (.bool true) ∧ Below w.heap.size w w' :=
  validates_bad _ 1 w (by omega) (light0 a cap w) (fun W hW => awake_any W (ht.later hW)) (fun W _ => encode_bad_of _ 1 W (valid0 a cap W) (by omega)) (fun W _ => encodeR_bad_of _ 1 W (validR0 a cap W) (by omega)) (fun W _ => valid0 a cap W) (fun W _ => validR0 a cap W)

set_option maxRecDepth 100000
theorem tryd_cells58 : Tryd.prog.cellsOf 58 = 3 := by kernel_rfl
theorem tryd_cells3 : Tryd.prog.cellsOf 3 = 1 := by kernel_rfl
theorem tryd_cells45 : Tryd.prog.cellsOf 45 = 1 := by kernel_rfl
theorem tryd_cells9 : Tryd.prog.cellsOf 9 = 1 := by kernel_rfl

theorem add_add (b off i j : Nat) : ((⟨b, off, none⟩ : Addr).add i).add j = ⟨b, off + i + j, none⟩ := by
  unfold Addr.add
  split <;> split <;> simp_all [Nat.add_assoc]

/-- the three cells of an item -/
theorem item_cells {H : Type} {enc : TypeId × Value → H} {W : World} {base : Nat} {sp : Nat → Bool} {held : Bool} {fuel : Nat} {cs : List Value} {x : DataW H × List MemPlace} (h : DataW.trod enc Tryd.prog W base sp held fuel 58 cs = some x) :
    ∃ (k n : Int) (d : ByteArray), cs = [.int .i64 k, .int .u64 n, .string d] ∧ 0 ≤ n ∧ d.size ≤ maxLen := by
  obtain ⟨xs, m, rfl, _, hl, hxl, hall⟩ := DataW.trod_struct Tryd.underlying58 h
  rw [tryd_cells58] at hl
  match cs, hl with
  | [c0, c1, c2], _ =>
    have h0 : DataW.trod enc Tryd.prog W base sp held m 3 (([c0, c1, c2].drop 0).take (Tryd.prog.cellsOf 3)) = xs[0]? := hall 0 _ rfl
    have h1 : DataW.trod enc Tryd.prog W base sp held m 45 (([c0, c1, c2].drop 1).take (Tryd.prog.cellsOf 45)) = xs[1]? := hall 1 _ rfl
    have h2 : DataW.trod enc Tryd.prog W base sp held m 9 (([c0, c1, c2].drop 2).take (Tryd.prog.cellsOf 9)) = xs[2]? := hall 2 _ rfl
    rw [tryd_cells3] at h0
    rw [tryd_cells45] at h1
    rw [tryd_cells9] at h2
    have l0 : 0 < xs.length := by rw [hxl]; decide
    have l1 : 1 < xs.length := by rw [hxl]; decide
    have l2 : 2 < xs.length := by rw [hxl]; decide
    rw [List.getElem?_eq_getElem l0] at h0
    rw [List.getElem?_eq_getElem l1] at h1
    rw [List.getElem?_eq_getElem l2] at h2
    obtain ⟨k, e0, _, _⟩ := DataW.trod_int Tryd.underlying3 h0
    obtain ⟨n, e1, _, wn⟩ := DataW.trod_int Tryd.underlying45 h1
    obtain ⟨d, e2, _, hd⟩ := DataW.trod_string Tryd.underlying9 h2
    simp at e0 e1 e2
    subst e0 e1 e2
    exact ⟨k, n, d, rfl, (u64_of_wf wn).1, hd⟩

/-- a []api.Item argument, opened -/
theorem open_items {H : Type} {enc : TypeId × Value → H} {W : World} {b0 base : Nat} {r : Reach} {v : Value} {d : DataW H} {ps : List MemPlace} (hval : Value.okWide Tryd.prog W r b0 22 v) (hd : DataW.Trod enc Tryd.prog W base (fun _ => true) true 22 v d ps) :
    ∃ (a : Option Addr) (len cap : Nat), v = .slice a len cap ∧ (0 < len → len ≤ 1000 → ∃ l : List It, l.length = len ∧ ItemsAt W W.heap.size v l) := by
  obtain ⟨a0, len, cap, rfl⟩ := okWide_slice Tryd.underlying22 hval
  obtain ⟨fuel, hf⟩ := hd
  refine ⟨a0, len, cap, rfl, fun h0 h1 => ?_⟩
  rcases open_slice Tryd.underlying22 hf with ⟨hcs, hx⟩ | ⟨a, len', cap', m, n, D, Pl, hcs, _, hl, hm, hmm, hx, hcell⟩
  · simp [Value.cells] at hcs
    omega
  · simp [Value.cells] at hcs
    obtain ⟨rfl, rfl, rfl⟩ := hcs
    simp only [if_true] at hmm
    subst hmm
    rw [tryd_cells58] at hcell
    have hsp : a.spot = none := by
      obtain ⟨cs', hc1, hc2⟩ := hcell 0 (by omega)
      obtain ⟨_, _, h3⟩ := World.cells?_some hc1
      obtain ⟨k, n, d, rfl, _⟩ := item_cells hc2
      have := h3 0 (by omega)
      have h4 : W.cell? a = some (.int .i64 k) := by simpa [Addr.add] using this
      exact World.cell?_spot h4
    obtain ⟨b, off, spot⟩ := a
    simp only at hsp
    subst hsp
    have hx : ∀ i, i < len → ∃ x : It, (W.cell? ⟨b, off + i * 3, none⟩ = some (.int .i64 x.k) ∧ W.cell? ⟨b, off + i * 3 + 1, none⟩ = some (.int .u64 x.n) ∧ W.cell? ⟨b, off + i * 3 + 2, none⟩ = some (.string x.d)) ∧ 0 ≤ x.n ∧ x.d.size ≤ maxLen := fun i hi => by
      obtain ⟨cs', hc1, hc2⟩ := hcell i (by omega)
      obtain ⟨_, _, h3⟩ := World.cells?_some hc1
      obtain ⟨k, n, d, rfl, hn, hd⟩ := item_cells hc2
      have g0 := h3 0 (by omega)
      have g1 := h3 1 (by omega)
      have g2 := h3 2 (by omega)
      rw [add_add] at g0 g1 g2
      exact ⟨⟨k, n, d⟩, ⟨g0, g1, g2⟩, hn, hd⟩
    haveI : Inhabited It := ⟨⟨0, 0, ⟨#[]⟩⟩⟩
    obtain ⟨V, hV⟩ := choose_lt hx
    refine ⟨(List.range len).map V, by simp, ⟨.inr ⟨b, off, m, by simp, ?_, fun i hi => ?_⟩, fun x hx => ?_, by simp; omega⟩⟩
    · exact cell_lt (hV 0 h0).1.1
    · have hi' : i < len := by simpa using hi
      have e : ((List.range len).map V)[i] = V i := by simp
      rw [e]
      exact (hV i hi').1
    · obtain ⟨i, hi, rfl⟩ := List.mem_map.1 hx
      exact (hV i (by simpa using hi)).2

end Go.Proofs.YtepinmeidjlmmaaDoor

namespace Go.Proofs.YtepinmeidjlmmaaDoor
open Go.RowKit

def deepL (j : Nat) : List It := List.replicate j ⟨5, 1, ⟨#[]⟩⟩
def wideL (k j : Nat) : List It := ⟨5, k, ⟨#[]⟩⟩ :: List.replicate j ⟨8, 0, ⟨#[]⟩⟩
theorem deepL_succ (j : Nat) : deepL (j + 1) = deepL j ++ [⟨5, 1, ⟨#[]⟩⟩] := by rw [deepL, List.replicate_succ']; rfl
theorem wideL_succ (k j : Nat) : wideL k (j + 1) = wideL k j ++ [⟨8, 0, ⟨#[]⟩⟩] := by rw [wideL, List.replicate_succ']; rfl

theorem lit_items (w : World) (k n : Int) (hn : 0 ≤ n) : ItemsAt (w.alloc (.cells #[.int .i64 k, .int .u64 n, .string ⟨#[]⟩] 58)) (w.heap.size + 1) (.slice (some ⟨w.heap.size, 0, none⟩) 1 1) [⟨k, n, ⟨#[]⟩⟩] :=
  itemsAt_one (Nat.lt_succ_self _) (heap_new w _) hn (Nat.zero_le _)

theorem below_lit {w wr w2 : World} {o : Obj} (h1 : Below w.heap.size w wr) (h2 : Below w.heap.size (wr.alloc o) w2) : Below w.heap.size w w2 := (h1.alloc h1.size _).trans h2

theorem deep_all : ((List.range 12).all fun J => decide (J ≤ 8) == (validE (deepL J ++ [⟨8, 0, ⟨#[]⟩⟩]) == 0)) = true := by decide +kernel
theorem wide_all : ((List.range 20).all fun K => decide (500 + K < 512) == (validE (wideL (500 + K) (500 + K)) == 0)) = true := by decide +kernel
theorem deep_is {J : Nat} (h : J < 12) : (J ≤ 8) ↔ validE (deepL J ++ [⟨8, 0, ⟨#[]⟩⟩]) = 0 := by
  have e : decide (J ≤ 8) = (validE (deepL J ++ [⟨8, 0, ⟨#[]⟩⟩]) == 0) := by simpa using List.all_eq_true.1 deep_all J (List.mem_range.2 h)
  rw [← decide_eq_true_iff (p := J ≤ 8), e, beq_iff_eq]
theorem wide_is {K : Nat} (h0 : 500 ≤ K) (h : K < 520) : (K < 512) ↔ validE (wideL K K) = 0 := by
  have := List.all_eq_true.1 wide_all (K - 500) (List.mem_range.2 (by omega))
  rw [show 500 + (K - 500) = K from by omega] at this
  have e : decide (K < 512) = (validE (wideL K K) == 0) := by simpa using this
  rw [← decide_eq_true_iff (p := K < 512), e, beq_iff_eq]

end Go.Proofs.YtepinmeidjlmmaaDoor

/- Numbers for a tree: At and Text. -/
namespace Go.Proofs.YtepinmeidjlmmaaDoor
open Go.RowKit
set_option maxRecDepth 100000

theorem bits_low (i : Nat) (hi : i ≤ 62) (x : Int) : bits .and .i64 x (2 ^ i - 1) = x % 2 ^ i := by
  have hpos : 0 < 2 ^ i := Nat.two_pow_pos i
  have hle : 2 ^ i ≤ 2 ^ 62 := Nat.pow_le_pow_right (by decide) hi
  obtain ⟨a, ha⟩ := Int.eq_ofNat_of_zero_le (Int.emod_nonneg x (b := 18446744073709551616) (by decide))
  have hc : ((2 : Int) ^ i - 1) = ((2 ^ i - 1 : Nat) : Int) := by
    rw [Int.natCast_sub hpos]; simp
  have hx : BitVec.ofInt 64 x = BitVec.ofNat 64 a := by
    apply BitVec.eq_of_toNat_eq
    rw [BitVec.toNat_ofInt, BitVec.toNat_ofNat]
    have h2 : x % ((2 ^ 64 : Nat) : Int) = (a : Int) := ha
    rw [h2]
    have : a < 2 ^ 64 := by omega
    rw [Nat.mod_eq_of_lt this]
    simp
  have hd : x % 2 ^ i = ((a % 2 ^ i : Nat) : Int) := by
    have h1 : x % 18446744073709551616 % ((2 ^ i : Nat) : Int) = x % ((2 ^ i : Nat) : Int) := by
      apply Int.emod_emod_of_dvd
      have : (18446744073709551616 : Int) = ((2 ^ 64 : Nat) : Int) := by decide
      rw [this]
      exact_mod_cast Nat.pow_dvd_pow 2 (show i ≤ 64 by omega)
    rw [ha] at h1
    have e : ((2 ^ i : Nat) : Int) = (2 : Int) ^ i := by simp
    rw [e] at h1
    rw [← h1, ← e]
    norm_cast
  have h64 : (2 ^ i - 1) % 2 ^ 64 = 2 ^ i - 1 := Nat.mod_eq_of_lt (by omega)
  have ha64 : a % 2 ^ 64 = a := Nat.mod_eq_of_lt (by omega)
  show IntKind.i64.wrap ((BitVec.ofInt 64 x &&& BitVec.ofInt 64 (2 ^ i - 1)).toNat : Int) = _
  rw [hx, hc, BitVec.ofInt_natCast, BitVec.toNat_and, BitVec.toNat_ofNat, BitVec.toNat_ofNat, h64, ha64, Nat.and_two_pow_sub_one_eq_mod, hd, IntKind.wrap_i64]
  have : a % 2 ^ i < 2 ^ i := Nat.mod_lt _ hpos
  omega
@[go_sem] theorem and1_ (x : Int) : bits .and .i64 x 1 = x % 2 := bits_low 1 (by decide) x
@[go_sem] theorem and3_ (x : Int) : bits .and .i64 x 3 = x % 4 := bits_low 2 (by decide) x
@[go_sem] theorem and7_ (x : Int) : bits .and .i64 x 7 = x % 8 := bits_low 3 (by decide) x
@[go_sem] theorem and31_ (x : Int) : bits .and .i64 x 31 = x % 32 := bits_low 5 (by decide) x
@[go_sem] theorem and63_ (x : Int) : bits .and .i64 x 63 = x % 64 := bits_low 6 (by decide) x
@[go_sem] theorem and65535_ (x : Int) : bits .and .i64 x 65535 = x % 65536 := bits_low 16 (by decide) x

/-- a slice value that holds the numbers l -/
structure Ints (w : World) (A : Option Addr) (n : Nat) (l : List Int) : Prop where
  len : l.length = n
  at_ : ∀ i, i < n → ∃ a, A = some a ∧ w.cell? (a.add i) = some (.int .i64 (l.getD i 0))
theorem cellIn {w : World} {a : Addr} {v : Value} (h : w.cell? a = some v) : a.block < w.heap.size := by
  rcases Nat.lt_or_ge a.block w.heap.size with h1 | h1
  · exact h1
  · unfold World.cell? at h
    simp [Array.getElem?_eq_none h1] at h
theorem Ints.below {w w' : World} {A : Option Addr} {n : Nat} {l : List Int} (h : Ints w A n l) (hb : Below w.heap.size w w') : Ints w' A n l :=
  ⟨h.len, fun i hi => by
    obtain ⟨a, e, hc⟩ := h.at_ i hi
    exact ⟨a, e, (hb.cell (cellIn hc)).trans hc⟩⟩

def atI (l : List Int) (i : Nat) : Nat := if l.length = 0 then i else (l.getD (i % l.length) 0 % 65536).toNat + i / l.length

theorem atI_lt (l : List Int) (i : Nat) (h : i ≤ 1000) : atI l i < 70000 := by
  unfold atI
  split
  · omega
  · have := Int.emod_lt_of_pos (l.getD (i % l.length) 0) (show (0 : Int) < 65536 by decide)
    have := Int.emod_nonneg (l.getD (i % l.length) 0) (show (65536 : Int) ≠ 0 by decide)
    have := Nat.div_le_self i l.length
    omega

set_option maxHeartbeats 1000000 in
theorem at_any (A : Option Addr) (n cap : Nat) (l : List Int) (i : Nat) (w : World) (h : Ints w A n l) (hi : i ≤ 1000) (hn : n ≤ 9223372036854775807) :
    Calls Tryd.prog 62 #[.slice A n cap, .int .i64 i] w fun e w' => e = .returned (.int .i64 (atI l i)) ∧ Below w.heap.size w w' := by
  have hl := h.len
  rcases Nat.eq_zero_or_pos n with h0 | h0
  · subst h0
    have e : atI l i = i := by rw [atI, if_pos hl]
    rw [e]
    have e2 : (i : Int) % 65536 = i := by omega
    go_enter Tryd.func62, Tryd.ntmps62
    go_wp2
    go_ret
    exact ⟨rfl, Below.refl _ _⟩
  · have hlt : i % n < n := Nat.mod_lt _ h0
    obtain ⟨a, rfl, hc⟩ := h.at_ (i % n) hlt
    have h2 : i / n ≤ 1000 := Nat.le_trans (Nat.div_le_self _ _) hi
    have h3 : (i : Int) / (n : Int) = ((i / n : Nat) : Int) := by norm_cast
    have h4 : (0 : Int) ≤ (i : Int) / (n : Int) := by rw [h3]; exact Int.natCast_nonneg _
    have h5 : (i : Int) / (n : Int) ≤ 1000 := by rw [h3]; exact_mod_cast h2
    have e : (atI l i : Int) = l.getD (i % n) 0 % 65536 + (i : Int) / (n : Int) % 65536 := by
      rw [atI, if_neg (by omega), hl, h3]
      generalize i / n = q at *
      have h1 := Int.emod_nonneg (l.getD (i % n) 0) (show (65536 : Int) ≠ 0 by decide)
      omega
    clear h3
    rw [e]
    generalize l.getD (i % n) 0 = x at *
    clear e
    go_enter Tryd.func62, Tryd.ntmps62
    go_wp2_with fail
    go_quiet (fail)
    go_wp2
    go_ret
    exact ⟨rfl, ⟨rfl, rfl, rfl, Nat.le_refl _, fun _ _ => rfl⟩⟩

def wordS (n : Nat) : ByteArray := match n with
  | 0 => ⟨#[]⟩
  | 1 => ⟨#[97]⟩
  | 2 => ⟨#[98]⟩
  | 3 => ⟨#[108, 111, 103, 105, 110]⟩
  | 4 => ⟨#[107, 101, 121]⟩
  | 5 => ⟨#[101, 120, 97, 109, 112, 108, 101, 46, 111, 114, 103]⟩
  | 6 => ⟨#[195, 169]⟩
  | _ => ⟨#[48, 49, 50, 51, 52, 53, 54, 55, 56, 57, 48, 49, 50, 51, 52, 53]⟩
def textS (k : Nat) : ByteArray := wordS (k % 8) ++ wordS (k / 8 % 8)

abbrev wordsO : Obj := .cells #[.string { data := #[] }, .string { data := #[97] }, .string { data := #[98] }, .string { data := #[108, 111, 103, 105, 110] }, .string { data := #[107, 101, 121] }, .string { data := #[101, 120, 97, 109, 112, 108, 101, 46, 111, 114, 103] }, .string { data := #[195, 169] }, .string { data := #[48, 49, 50, 51, 52, 53, 54, 55, 56, 57, 48, 49, 50, 51, 52, 53] }] 9
theorem word_cell (w : World) (i : Nat) (hi : i < 8) : (w.alloc wordsO).cell? ⟨w.heap.size, i, none⟩ = some (.string (wordS i)) := by
  refine cell_of_block (heap_new w _) ?_
  match i, hi with
  | 0, _ => rfl
  | 1, _ => rfl
  | 2, _ => rfl
  | 3, _ => rfl
  | 4, _ => rfl
  | 5, _ => rfl
  | 6, _ => rfl
  | 7, _ => rfl

theorem word_size (n : Nat) : (wordS n).size ≤ 16 := by
  unfold wordS
  split <;> decide
theorem text_size (k : Nat) : (textS k).size ≤ 32 := by
  have h1 := word_size (k % 8)
  have h2 := word_size (k / 8 % 8)
  rw [textS, ByteArray.size_append]
  omega

set_option maxHeartbeats 1000000 in
theorem txt_any (k : Nat) (w : World) :
    Calls Tryd.prog 63 #[.int .i64 k] w fun e w' => e = .returned (.string (textS k)) ∧ Below w.heap.size w w' := by
  have h1 : k % 8 < 8 := Nat.mod_lt _ (by decide)
  have h2 : k / 8 % 8 < 8 := Nat.mod_lt _ (by decide)
  have C1 := Lib.hid (word_cell w (k % 8) h1)
  have C2 := Lib.hid (word_cell w (k / 8 % 8) h2)
  have HB := Lib.hid ((Below.refl w.heap.size w).alloc (Nat.le_refl _) wordsO)
  have z1 := word_size (k % 8)
  have z2 := word_size (k / 8 % 8)
  unfold textS
  generalize wordS (k % 8) = s1 at *
  generalize wordS (k / 8 % 8) = s2 at *
  go_enter Tryd.func63, Tryd.ntmps63
  go_wp2_with fail
  obtain ⟨W, hW⟩ : ∃ W, w.alloc wordsO = W := ⟨_, rfl⟩
  rw [hW]
  have c1 := C1.out
  have c2 := C2.out
  have hb := HB.out
  rw [hW] at c1 c2 hb
  clear hW C1 C2 HB
  generalize hBs : w.heap.size = B at *
  have e1 : (k : Int) % 8 = ((k % 8 : Nat) : Int) := by omega
  have e2 : (k : Int) / 8 % 8 = ((k / 8 % 8 : Nat) : Int) := by omega
  generalize k % 8 = m1 at *
  generalize k / 8 % 8 = m2 at *
  have e3 : (m1 : Int) < 8 := by omega
  have e4 : (m2 : Int) < 8 := by omega
  have hadd := fun (W : World) => run_string_add_sum (P := Tryd.prog) (w := W) s1 s2 (by omega)
  have hsum : (s1.size : Int) + (s2.size : Int) ≤ 9223372036854775807 := by omega
  go_quiet (fail)
  go_wp2
  go_ret
  exact ⟨rfl, by rw [hBs]; exact hb.trans ⟨rfl, rfl, rfl, Nat.le_refl _, fun _ _ => rfl⟩⟩
end Go.Proofs.YtepinmeidjlmmaaDoor

/- The tree of a law, plain. -/
namespace Go.Proofs.YtepinmeidjlmmaaDoor
open Go.RowKit
set_option maxRecDepth 100000

def shlW (k s : Nat) : Int := ((k * 2 ^ s % 18446744073709551616 : Nat) : Int)
/-- a leaf of the tree -/
def leafI (n : Nat) : It :=
  if n % 8 = 0 then ⟨1, shlW (n / 8) (n / 8 % 64), ⟨#[]⟩⟩
  else if n % 8 = 1 then ⟨2, shlW (n / 8) (n / 8 / 4 % 64), ⟨#[]⟩⟩
  else if n % 8 = 2 then ⟨3, 0, textS (n / 8)⟩
  else if n % 8 = 3 then ⟨4, 0, textS (n / 8)⟩
  else if n % 8 = 4 then ⟨7, ((n / 8 % 2 : Nat) : Int), ⟨#[]⟩⟩
  else ⟨8, 0, ⟨#[]⟩⟩
/-- a key of a map -/
def longkey : ByteArray := ⟨#[108, 111, 110, 103, 107, 101, 121]⟩
def keyI (k i : Nat) : It := if i = 2 ∧ k / 128 % 2 = 1 then ⟨4, 0, longkey ++ textS (k % 4)⟩ else ⟨1, ((k / 4 % 32 + 20 * i : Nat) : Int), ⟨#[]⟩⟩
/-- the parts behind an array's or a map's head -/
def kidsE (T : Nat → List It × Nat) (ky : Nat → List It) : Nat → Nat → Nat → List It × Nat
  | 0, _, a => ([], a)
  | c + 1, i, a => (ky i ++ (T a).1 ++ (kidsE T ky c (i + 1) (T a).2).1, (kidsE T ky c (i + 1) (T a).2).2)
def nestB (n a : Nat) : Bool := decide (6 ≤ n % 8) && decide (a + 1 ≤ 30)
def keysOf (n : Nat) : Nat → List It := if n % 8 = 6 then fun _ => [] else fun i => [keyI (n / 8) i]
def headI (n : Nat) : It := ⟨if n % 8 = 6 then 5 else 6, ((n / 8 % 4 : Nat) : Int), ⟨#[]⟩⟩
/-- the tree at a: f more levels are allowed -/
def treeE (l : List Int) : Nat → Nat → List It × Nat
  | 0, a => ([leafI (atI l a)], a + 1)
  | f + 1, a =>
    if nestB (atI l a) a = true then
      (headI (atI l a) :: (kidsE (treeE l f) (keysOf (atI l a)) (atI l a / 8 % 4) 0 (a + 1)).1, (kidsE (treeE l f) (keysOf (atI l a)) (atI l a / 8 % 4) 0 (a + 1)).2)
    else ([leafI (atI l a)], a + 1)

theorem treeE_zero (l : List Int) (a : Nat) : treeE l 0 a = ([leafI (atI l a)], a + 1) := rfl
theorem treeE_leaf {l : List Int} {f a : Nat} (h : nestB (atI l a) a = false) : treeE l (f + 1) a = ([leafI (atI l a)], a + 1) := by simp [treeE, h]
theorem treeE_nest {l : List Int} {f a : Nat} (h : nestB (atI l a) a = true) : treeE l (f + 1) a = (headI (atI l a) :: (kidsE (treeE l f) (keysOf (atI l a)) (atI l a / 8 % 4) 0 (a + 1)).1, (kidsE (treeE l f) (keysOf (atI l a)) (atI l a / 8 % 4) 0 (a + 1)).2) := by simp [treeE, h]

theorem keysOf_len (n i : Nat) : (keysOf n i).length ≤ 1 := by
  unfold keysOf
  split <;> simp
theorem kids_bound {T : Nat → List It × Nat} {ky : Nat → List It} {L C : Nat} (hT : ∀ a, (T a).1.length ≤ L ∧ (T a).2 ≤ a + C) (hk : ∀ i, (ky i).length ≤ 1) :
    ∀ c i a, (kidsE T ky c i a).1.length ≤ c * (L + 1) ∧ (kidsE T ky c i a).2 ≤ a + c * C
  | 0, i, a => by simp [kidsE]
  | c + 1, i, a => by
    obtain ⟨h1, h2⟩ := kids_bound hT hk c (i + 1) (T a).2
    obtain ⟨h3, h4⟩ := hT a
    have h5 := hk i
    simp only [kidsE, List.length_append, Nat.add_mul, Nat.one_mul]
    refine ⟨?_, ?_⟩
    · have := Nat.mul_add c L 1
      omega
    · omega
def lenB : Nat → Nat
  | 0 => 1
  | f + 1 => 1 + 3 * (lenB f + 1)
def numB : Nat → Nat
  | 0 => 1
  | f + 1 => 1 + 3 * numB f
theorem lenB_pos : ∀ f, 1 ≤ lenB f
  | 0 => Nat.le_refl _
  | f + 1 => by simp [lenB]
theorem numB_pos : ∀ f, 1 ≤ numB f
  | 0 => Nat.le_refl _
  | f + 1 => by simp [numB]
theorem tree_bound (l : List Int) : ∀ f a, (treeE l f a).1.length ≤ lenB f ∧ (treeE l f a).2 ≤ a + numB f
  | 0, a => ⟨Nat.le_refl _, Nat.le_refl _⟩
  | f + 1, a => by
    by_cases h : nestB (atI l a) a = true
    · rw [treeE_nest h]
      obtain ⟨h1, h2⟩ := kids_bound (tree_bound l f) (keysOf_len (atI l a)) (atI l a / 8 % 4) 0 (a + 1)
      have h3 : atI l a / 8 % 4 ≤ 3 := by omega
      have h4 := Nat.mul_le_mul_right (lenB f + 1) h3
      have h5 := Nat.mul_le_mul_right (numB f) h3
      simp only [List.length_cons, lenB, numB]
      omega
    · have h' : nestB (atI l a) a = false := by simpa using h
      rw [treeE_leaf h']
      have h1 := lenB_pos (f + 1)
      have h2 := numB_pos (f + 1)
      simp only [List.length_singleton]
      omega
theorem tree_ne (l : List Int) (f a : Nat) : (treeE l f a).1 ≠ [] := by
  cases f with
  | zero => simp [treeE]
  | succ f =>
    unfold treeE
    split <;> simp

/-- what every item of a tree is like -/
def Fine (x : It) : Prop := 0 ≤ x.n ∧ x.d.size ≤ 100
theorem none_small : (⟨#[]⟩ : ByteArray).size ≤ 100 := by decide
theorem leaf_fine (n : Nat) : Fine (leafI n) := by
  have h1 := text_size (n / 8)
  unfold leafI Fine shlW
  have h0 := none_small
  repeat' split
  all_goals (refine ⟨?_, ?_⟩ <;> dsimp only <;> omega)
theorem key_fine (k i : Nat) : Fine (keyI k i) := by
  have h1 := text_size (k % 4)
  have h2 : longkey.size = 7 := rfl
  unfold keyI Fine
  split
  · simp only [ByteArray.size_append]; omega
  · exact ⟨Int.natCast_nonneg _, none_small⟩
theorem kids_fine {T : Nat → List It × Nat} {ky : Nat → List It} (hT : ∀ a, ∀ x ∈ (T a).1, Fine x) (hk : ∀ i, ∀ x ∈ ky i, Fine x) :
    ∀ c i a, ∀ x ∈ (kidsE T ky c i a).1, Fine x
  | 0, i, a, x, h => by simp [kidsE] at h
  | c + 1, i, a, x, h => by
    simp only [kidsE, List.mem_append] at h
    rcases h with (h | h) | h
    · exact hk i x h
    · exact hT a x h
    · exact kids_fine hT hk c (i + 1) _ x h
theorem keysOf_fine (n : Nat) : ∀ i, ∀ x ∈ keysOf n i, Fine x := by
  intro i x h
  unfold keysOf at h
  split at h
  · simp at h
  · simp at h; subst h; exact key_fine _ _
theorem tree_fine (l : List Int) : ∀ f a, ∀ x ∈ (treeE l f a).1, Fine x
  | 0, a, x, h => by simp [treeE] at h; subst h; exact leaf_fine _
  | f + 1, a, x, h => by
    by_cases hn : nestB (atI l a) a = true
    · rw [treeE_nest hn] at h
      simp only [List.mem_cons] at h
      rcases h with h | h
      · subst h; exact ⟨Int.natCast_nonneg _, none_small⟩
      · exact kids_fine (tree_fine l f) (keysOf_fine _) _ _ _ x h
    · have h' : nestB (atI l a) a = false := by simpa using hn
      rw [treeE_leaf h'] at h
      simp at h; subst h; exact leaf_fine _
end Go.Proofs.YtepinmeidjlmmaaDoor
