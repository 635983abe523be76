/- Joined: F5, F6, F7, D1, C1, D2, F8, H1. -/
import Derived.Test.YtepinmeidjlmmaaDoorN7
import Derived.Test.YtepinmeidjlmmaaDoorRows
import Derived.Test.YtepinmeidjlmmaaDoorN2
import Derived.Lib.LaidU8T
import Derived.MakeChecks
import Derived.Lay
import Derived.OpenShut
import Derived.ProofKit
import Derived.Test.YtepinmeidjlmmaaDoorN4
import Derived.Deep.Slices
namespace Go.Proofs.YtepinmeidjlmmaaDoor
open Go.RowKit

theorem walkE_bad {f : Nat} {l : List It} {a dep : Nat} {key : Bool} {bf : ByteArray} {x : It} (hx : l[a]? = some x) (hc : checkRE a dep key bf x.k x.n x.d ≠ 0) : walkE (f + 1) l a dep key bf = (a, checkRE a dep key bf x.k x.n x.d) := by
  rw [walkE, hx]; simp only; rw [if_pos hc]
theorem walkE_leaf {f : Nat} {l : List It} {a dep : Nat} {key : Bool} {bf : ByteArray} {x : It} (hx : l[a]? = some x) (hc : checkRE a dep key bf x.k x.n x.d = 0) (hk : ¬ (x.k = 5 ∨ x.k = 6)) : walkE (f + 1) l a dep key bf = (a + 1, 0) := by
  rw [walkE, hx]; simp only; rw [if_neg (by simp [hc]), if_neg hk]
theorem walkE_nest {f : Nat} {l : List It} {a dep : Nat} {key : Bool} {bf : ByteArray} {x : It} (hx : l[a]? = some x) (hc : checkRE a dep key bf x.k x.n x.d = 0) (hk : x.k = 5 ∨ x.k = 6) :
    walkE (f + 1) l a dep key bf = loopE (fun a2 k2 b2 => walkE f l a2 (dep + 1) k2 b2) l (x.k == 6) x.n.toNat (a + 1) ⟨#[]⟩ := by
  rw [walkE, hx]; simp only; rw [if_neg (by simp [hc]), if_pos hk]

theorem sim (l : List It) (hpos : ∀ x ∈ l, 0 ≤ x.n) : ∀ (f dep : Nat), f + dep = 9 → ∀ (a : Nat) (s : List Lv) (bf : ByteArray), s.length = dep → compB a s = false → KeyRel s bf →
    validGo a s (l.drop a) = fin l s a (walkE (f + 1) l a dep (atKeyB s) bf) := by
  intro f
  induction f with
  | zero =>
    intro dep hf a s bf hs hc hr
    by_cases ha : a < l.length
    · have hx : l[a]? = some l[a] := List.getElem?_eq_getElem ha
      rw [drop_at ha]
      generalize l[a] = x at hx
      have hck := check_same (k := x.k) (n := x.n) (d := x.d) hc hr
      rw [hs] at hck
      have hne : checkRE a dep (atKeyB s) bf x.k x.n x.d ≠ 0 := by
        intro h
        have := (checkR_zero h).2.2.2.1
        omega
      rw [walkE_bad hx hne, validGo, hck, if_neg hne]
      simp [fin, hne]
    · have hx : l[a]? = none := List.getElem?_eq_none (by omega)
      rw [List.drop_eq_nil_of_le (by omega), validGo, if_neg (by simp [hc]), walkE, hx]
      simp [fin]
  | succ f ih =>
    intro dep hf a s bf hs hc hr
    by_cases ha : a < l.length
    · have hx : l[a]? = some l[a] := List.getElem?_eq_getElem ha
      have hp := hpos l[a] (List.getElem_mem ha)
      rw [drop_at ha]
      generalize l[a] = x at hx hp
      have hck := check_same (k := x.k) (n := x.n) (d := x.d) hc hr
      rw [hs] at hck
      by_cases hz : checkRE a dep (atKeyB s) bf x.k x.n x.d = 0
      · rw [validGo, hck, if_pos hz]
        by_cases hk : x.k = 5 ∨ x.k = 6
        · rw [walkE_nest hx hz hk]
          have hlen : (lessS (keyS s x.k x.n x.d)).length = dep := by rw [lessS_len, keyS_len, hs]
          have hdone : doneAt l s a = popAll (lessS (keyS s x.k x.n x.d)) := by simp [doneAt, hx]
          have H := ih (dep + 1) (by omega)
          by_cases hn : x.n = 0
          · have hp0 : ¬ 0 < partsN x.k x.n := by rw [hn]; unfold partsN; split <;> (try split) <;> omega
            rw [hn]
            simp only [Int.toNat_zero, loopE]
            rw [fin, if_neg (by simp), hdone, enterS, ← hn, pushed_no hp0]
          · obtain ⟨c, hcn⟩ : ∃ c : Nat, x.n = (c : Int) + 1 := ⟨x.n.toNat - 1, by omega⟩
            have hp1 : 0 < partsN x.k x.n := by
              unfold partsN
              rcases hk with h | h
              · rw [if_pos h]; omega
              · rw [if_neg (by omega), if_pos h]; omega
            have hN : x.n.toNat = c + 1 := by omega
            rw [hN, enterS, pushed_yes hp1]
            have hpop : popAll (newLv x.k x.n :: lessS (keyS s x.k x.n x.d)) = newLv x.k x.n :: lessS (keyS s x.k x.n x.d) := by
              rw [popAll, if_neg (by show partsN x.k x.n ≠ 0; omega)]
            rw [hpop]
            have hfin : ∀ r, fin l s a r = finL l (lessS (keyS s x.k x.n x.d)) r := fun r => by unfold fin finL; rw [hdone]
            rw [hfin]
            rcases hk with h | h
            · have e6 : (x.k == 6) = false := by simp [h]
              rw [e6]
              exact loop_arr l f dep H c (a + 1) (newLv x.k x.n) _ _ (by simp [newLv, h]) (by show partsN x.k x.n = _; unfold partsN; rw [if_pos h]; omega) hlen
            · have e6 : (x.k == 6) = true := by simp [h]
              rw [e6]
              exact loop_map l f dep H c (a + 1) (newLv x.k x.n) _ _ (by simp [newLv, h]) (by show partsN x.k x.n = _; unfold partsN; rw [if_neg (by omega), if_pos h]; omega) hlen (by simp [newLv]) (.inl ⟨rfl, by rw [Lib.toList_data]; rfl⟩)
        · have hp0 : ¬ 0 < partsN x.k x.n := by unfold partsN; rw [if_neg (fun h => hk (.inl h)), if_neg (fun h => hk (.inr h))]; omega
          rw [walkE_leaf hx hz hk, fin, if_neg (by simp), enterS, pushed_no hp0]
          simp [doneAt, hx]
      · rw [walkE_bad hx hz, validGo, hck, if_neg hz]
        simp [fin, hz]
    · have hx : l[a]? = none := List.getElem?_eq_none (by omega)
      rw [List.drop_eq_nil_of_le (by omega), validGo, if_neg (by simp [hc]), walkE, hx]
      simp [fin]

theorem loopE_mono (W : Nat → Bool → ByteArray → Nat × Int) (l : List It) (mp : Bool) (hW : ∀ a k b, (W a k b).2 = 0 → a ≤ (W a k b).1) : ∀ (c a : Nat) (last : ByteArray), (loopE W l mp c a last).2 = 0 → a ≤ (loopE W l mp c a last).1 := by
  intro c
  induction c with
  | zero => intro a last _; simp [loopE]
  | succ c ih =>
    intro a last h
    rw [loopE] at h ⊢
    cases mp with
    | true =>
      simp only [if_true] at h ⊢
      by_cases h1 : (W a true last).2 = 0
      · rw [if_neg (by simp [h1])] at h ⊢
        by_cases h2 : (W (W a true last).1 false ⟨#[]⟩).2 = 0
        · rw [if_neg (by simp [h2])] at h ⊢
          exact Nat.le_trans (hW _ _ _ h1) (Nat.le_trans (hW _ _ _ h2) (ih _ _ h))
        · rw [if_pos h2] at h; exact absurd h h2
      · rw [if_pos h1] at h; exact absurd h h1
    | false =>
      simp only [Bool.false_eq_true, if_false] at h ⊢
      by_cases h1 : (W a false ⟨#[]⟩).2 = 0
      · rw [if_neg (by simp [h1])] at h ⊢
        exact Nat.le_trans (hW _ _ _ h1) (ih _ _ h)
      · rw [if_pos h1] at h; exact absurd h h1
theorem walkE_mono (l : List It) : ∀ (f a dep : Nat) (key : Bool) (bf : ByteArray), (walkE f l a dep key bf).2 = 0 → a + 1 ≤ (walkE f l a dep key bf).1 := by
  intro f
  induction f with
  | zero => intro a dep key bf h; simp [walkE] at h
  | succ f ih =>
    intro a dep key bf h
    obtain ⟨x, hx, hc⟩ := walkE_ok h
    by_cases hk : x.k = 5 ∨ x.k = 6
    · rw [walkE_nest hx hc hk] at h ⊢
      exact loopE_mono _ _ _ (fun a2 k2 b2 h2 => by have := ih a2 (dep + 1) k2 b2 h2; omega) _ _ _ h
    · rw [walkE_leaf hx hc hk]; simp

/-- the reference's Validate -/
def validR (l : List It) : Int := if (walkE 10 l 0 0 false ⟨#[]⟩).2 ≠ 0 then (walkE 10 l 0 0 false ⟨#[]⟩).2 else if (walkE 10 l 0 0 false ⟨#[]⟩).1 < l.length then 2 else 0
theorem valid_same (l : List It) (hpos : ∀ x ∈ l, 0 ≤ x.n) : validE l = validR l := by
  have h := sim l hpos 9 0 rfl 0 [] ⟨#[]⟩ rfl rfl (fun h => by cases h)
  rw [List.drop_zero] at h
  unfold validE validR
  rw [h, show atKeyB [] = false from rfl]
  by_cases he : (walkE 10 l 0 0 false ⟨#[]⟩).2 = 0
  · have hm := walkE_mono l 10 0 0 false ⟨#[]⟩ he
    obtain ⟨x, hx, _⟩ := walkE_ok he
    have hd : doneAt l [] 0 = [] := by simp [doneAt, hx, keyS, lessS, popAll]
    rw [fin, if_neg (by simp [he]), if_neg (by simp [he]), hd]
    generalize (walkE 10 l 0 0 false ⟨#[]⟩).1 = m at hm
    have hcb : compB m [] = true := by simp [compB]; omega
    by_cases hl : m < l.length
    · rw [if_pos hl, drop_at hl, validGo, check2 hcb]
      rfl
    · rw [if_neg hl, List.drop_eq_nil_of_le (by omega), validGo, if_pos hcb]
  · rw [fin, if_pos he, if_pos he]

end Go.Proofs.YtepinmeidjlmmaaDoor

namespace Go.Proofs.YtepinmeidjlmmaaDoor
open Go.RowKit

theorem items_len {w : World} {B : Nat} {a : Option Addr} {len cap : Nat} {l : List It} (hI : ItemsAt w B (.slice a len cap) l) : len = l.length := by
  rcases hI.form with ⟨h, h2⟩ | ⟨b, off, c, h, _⟩
  · cases h; rw [h2]; rfl
  · cases h; rfl

set_option maxRecDepth 100000 in
set_option maxHeartbeats 400000 in
theorem validR_of (r : Nat × Int) (n : Nat) (a : Option Addr) (cap : Nat) (w : World)
    (hC : Calls Tryd.prog 42 #[.slice a n cap, .int .i64 0, .int .i64 0, .bool false, .string ⟨#[]⟩] w (WalkPost w r)) :
    Calls Tryd.prog 19 #[.slice a n cap] w fun e w' => e = .returned (.int .i64 (if r.2 ≠ 0 then r.2 else if r.1 < n then 2 else 0)) ∧ Below w.heap.size w w' := by
  obtain ⟨m, e⟩ := r
  have HC := Lib.hid hC
  clear hC
  by_cases he : e = 0
  · subst he
    by_cases hm : m < n
    · have h1 : (m : Int) < (n : Int) := by omega
      rw [if_neg (by simp), if_pos hm]
      go_enter Tryd.func19, Tryd.ntmps19
      go_wp2_with (go_at_call 42; refine HC.out.mono ?_; rintro e w1 ⟨rfl, hb1⟩)
      go_ret
      exact ⟨rfl, hb1⟩
    · have h1 : ¬ (m : Int) < (n : Int) := by omega
      rw [if_neg (by simp), if_neg hm]
      go_enter Tryd.func19, Tryd.ntmps19
      go_wp2_with (go_at_call 42; refine HC.out.mono ?_; rintro e w1 ⟨rfl, hb1⟩)
      go_ret
      exact ⟨rfl, hb1⟩
  · rw [if_pos he]
    go_enter Tryd.func19, Tryd.ntmps19
    go_wp2_with (go_at_call 42; refine HC.out.mono ?_; rintro e w1 ⟨rfl, hb1⟩)
    go_ret
    exact ⟨rfl, hb1⟩
theorem validR_any (l : List It) (v : Value) (w : World) (hI : ItemsAt w w.heap.size v l) (ht : Tabs w) :
    Calls Tryd.prog 19 #[v] w fun e w' => e = .returned (.int .i64 (validR l)) ∧ Below w.heap.size w w' := by
  have hC := walk_any l v 9 0 rfl 0 false ⟨#[]⟩ w hI ht
  rcases hI.form with ⟨rfl, hl⟩ | ⟨b, off, cap, rfl, _⟩
  · have h := validR_of _ 0 none 0 w hC
    have e : l.length = 0 := by rw [hl]; rfl
    unfold validR
    rw [e]
    exact h
  · exact validR_of _ l.length _ cap w hC

theorem validGo_shape : ∀ (l : List It) (c : Nat) (s : List Lv), validGo c s l = 0 → ∀ x ∈ l, shapeB x.k x.n x.d = true
  | [], _, _, _ => by simp
  | x :: r, c, s, h => by
    rw [validGo] at h
    by_cases hz : checkE c s x.k x.n x.d = 0
    · rw [if_pos hz] at h
      have hs : shapeB x.k x.n x.d = true := by
        cases hc : compB c s with
        | true => rw [check2 hc] at hz; cases hz
        | false =>
          by_cases hp : placeE c s x.k = 0
          · cases h5 : shapeB x.k x.n x.d with
            | true => rfl
            | false => rw [check4 hc hp h5] at hz; cases hz
          · rw [checkP hc hp] at hz; exact absurd hz hp
      intro y hy
      rcases List.mem_cons.1 hy with rfl | hy
      · exact hs
      · exact validGo_shape r _ _ h y hy
    · rw [if_neg hz] at h; exact absurd h hz

def encAllR (l : List It) : List Int := l.flatMap fun x => dataI (bytesS x.k x.n x.d)
theorem encAllR_take {l : List It} {j : Nat} (h : j < l.length) : encAllR (l.take (j + 1)) = encAllR (l.take j) ++ dataI (bytesS l[j].k l[j].n l[j].d) := by
  rw [List.take_succ_eq_append_getElem h, encAllR, List.flatMap_append]; simp [encAllR]
theorem bytesS_len (k n : Int) (d : ByteArray) : (bytesS k n d).size ≤ 10 + d.size := by
  have e : (bytesS k n d).size = (headR k n d).length + d.size := by
    rw [bytesS, ByteArray.size_append, strOfNums_size]
  have hlen : (headR k n d).length ≤ 9 := by
    unfold headR
    split
    · simp
    split
    · simp
    exact encHead_len _ _
  omega
theorem encAllR_len : ∀ {l : List It}, (∀ x ∈ l, Sound x) → (encAllR l).length ≤ l.length * 1034
  | [], _ => by simp [encAllR]
  | x :: r, h => by
    have h1 := encAllR_len (l := r) fun y hy => h y (List.mem_cons_of_mem _ hy)
    have h2 := bytesS_len x.k x.n x.d
    have h3 := (h x (by simp)).2.2.2.2
    have e : encAllR (x :: r) = dataI (bytesS x.k x.n x.d) ++ encAllR r := by simp [encAllR]
    rw [e, List.length_append, dataI_len, List.length_cons]
    omega

/-- both encodings read as one string -/
theorem enc_same_item {x : It} (hs : Sound x) (hsh : shapeB x.k x.n x.d = true) : Lib.bytesOf (dataI (bytesS x.k x.n x.d)) = Lib.bytesOf (encItem x.k x.n x.d) := by
  rw [bytesOf_data, ← Lib.toList_data]
  by_cases hk : x.k ≤ 6
  · exact bytesS_enc hk
  · have hnd : hasDataB x.k = false := by simp [hasDataB]; omega
    have he : x.d.toList.isEmpty = true := by
      cases he : x.d.toList.isEmpty with
      | true => rfl
      | false => rw [shape_bad he hnd] at hsh; cases hsh
    have hd : x.d.data.toList = [] := by rw [Lib.toList_data] at he; simpa using he
    rw [bytesS_list, hd, List.append_nil]
    have h8 := hs.2.2.1
    by_cases h7 : x.k = 7
    · rw [h7, encItem7]; simp [headR]
    · have h8 : x.k = 8 := by omega
      rw [h8, encItem8]; simp [headR]
theorem bytesOf_app (a b : List Int) : Lib.bytesOf (a ++ b) = Lib.bytesOf a ++ Lib.bytesOf b := by simp [Lib.bytesOf]
theorem enc_same : ∀ (l : List It), (∀ x ∈ l, Sound x) → (∀ x ∈ l, shapeB x.k x.n x.d = true) → Lib.bytesOf (encAllR l) = Lib.bytesOf (encAll l)
  | [], _, _ => rfl
  | x :: r, h, h2 => by
    have e1 : encAllR (x :: r) = dataI (bytesS x.k x.n x.d) ++ encAllR r := by simp [encAllR]
    have e2 : encAll (x :: r) = encItem x.k x.n x.d ++ encAll r := by simp [encAll]
    rw [e1, e2, bytesOf_app, bytesOf_app, enc_same_item (h x (by simp)) (h2 x (by simp)), enc_same r (fun y hy => h y (List.mem_cons_of_mem _ hy)) (fun y hy => h2 y (List.mem_cons_of_mem _ hy))]
theorem strOf_same {l : List It} (h : ∀ x ∈ l, Sound x) (h2 : ∀ x ∈ l, shapeB x.k x.n x.d = true) : strOfNums (encAllR l) = strOfNums (encAll l) := by
  have e := enc_same l h h2
  apply ByteArray.ext
  apply Array.toList_inj.1
  exact e

set_option maxRecDepth 100000 in
set_option maxHeartbeats 1000000 in
theorem encodeR_bad (l : List It) (v : Value) (w : World) (hI : ItemsAt w w.heap.size v l) (ht : Tabs w) (hz : validR l ≠ 0) :
    Calls Tryd.prog 17 #[v] w fun e w' => e = .returned (.tuple #[.slice none 0 0, .int .i64 (validR l)]) ∧ Below w.heap.size w w' := by
  have HV := Lib.hid (validR_any l v w hI ht)
  have hzb : (validR l != 0) = true := by simpa using hz
  clear hI ht hz
  go_enter Tryd.func17, Tryd.ntmps17
  go_wp2_with (go_at_call 19; refine HV.out.mono ?_; rintro e w1 ⟨rfl, hb1⟩)
  go_ret2
  exact ⟨rfl, hb1⟩

set_option maxRecDepth 100000 in
set_option maxHeartbeats 1000000 in
theorem encodeR_good (l : List It) (v : Value) (w : World) (hI : ItemsAt w w.heap.size v l) (ht : Tabs w) (hz : validR l = 0) (hS : ∀ x ∈ l, Sound x) (hlen : l.length ≤ 512) :
    Calls Tryd.prog 17 #[v] w fun e w' => ∃ v', e = .returned (.tuple #[v', .int .i64 0]) ∧ NewBytes w (encAllR l) v' w' := by
  have hzb : (validR l != 0) = false := by simpa using hz
  have HV := Lib.hid (validR_any l v w hI ht)
  have HZ := Lib.hid hz
  have HS := Lib.hid hS
  have hlen0 : 0 < l.length := by
    cases l with
    | nil => exact absurd hz (by decide)
    | cons a b => simp
  obtain ⟨b, off, cap, rfl, hb, hcells⟩ : ∃ b off cap, v = .slice (some ⟨b, off, none⟩) l.length cap ∧ b < w.heap.size ∧ ∀ i (h : i < l.length), w.cell? ⟨b, off + i * 3, none⟩ = some (.int .i64 l[i].k) ∧ w.cell? ⟨b, off + i * 3 + 1, none⟩ = some (.int .u64 l[i].n) ∧ w.cell? ⟨b, off + i * 3 + 2, none⟩ = some (.string l[i].d) := by
    rcases hI.form with ⟨_, h⟩ | h
    · rw [h] at hlen0; cases hlen0
    · exact h
  have HC := Lib.hid hcells
  clear hcells hI ht hz hS
  go_enter Tryd.func17, Tryd.ntmps17
  go_wp2_with (go_at_call 19; refine HV.out.mono ?_; rintro e w1 ⟨rfl, hb1⟩)
  have HB1 := Lib.hid hb1
  clear hb1
  go_loopw [5, 6] (fun v i wr => ∃ j : Nat, j ≤ l.length ∧ i = .int .i64 j ∧ wr.ownsRow w.heap.size 5 1 v (encAllR (l.take j)).length (bv (encAllR (l.take j))) ∧ Below w.heap.size w wr) (fun _ i _ => l.length - (intOf i).toNat)
  case atStart => exact ⟨0, by omega, rfl, World.ownsRow_nil _ _ _ _, HB1.out⟩
  case round =>
    obtain ⟨j, hj, rfl, ho, hbw⟩ := hrel
    have HO := Lib.hid ho
    have HB := Lib.hid hbw
    have hsz : w.heap.size ≤ wr.heap.size := hbw.size
    have hbr : b < wr.heap.size := by omega
    clear ho hbw
    by_cases hlt : j < l.length
    · obtain ⟨c0, c1, c2⟩ := HC.out j hlt
      have q0 := (HB.out.cell (p := ⟨b, off + j * 3, none⟩) hb).trans c0
      have q1 := (HB.out.cell (p := ⟨b, off + j * 3 + 1, none⟩) hb).trans c1
      have q2 := (HB.out.cell (p := ⟨b, off + j * 3 + 2, none⟩) hb).trans c2
      clear c0 c1 c2
      have hx := HS.out l[j] (List.getElem_mem hlt)
      have htk := encAllR_take hlt
      have HTK := Lib.hid htk
      have hln : (encAllR (l.take j)).length ≤ 900000 := by
        have h1 := encAllR_len (l := l.take j) (fun y hy => HS.out y (List.mem_of_mem_take hy))
        have h2 : (l.take j).length ≤ 512 := by rw [List.length_take]; omega
        have h3 : (l.take j).length * 1034 ≤ 512 * 1034 := Nat.mul_le_mul_right _ h2
        omega
      clear htk
      generalize l[j] = x at q0 q1 q2 hx HTK
      obtain ⟨k, n, d⟩ := x
      simp only [Sound] at q0 q1 q2 hx
      have hbs := bytesS_len k n d
      have hbs2 : (bytesS k n d).size ≤ 1000000000 := by omega
      have HCK := Lib.hid (bytesR_any k n d wr hx.2.1 hx.2.2.1 hx.1 hx.2.2.2.1 (by omega))
      clear hx hbs
      go_wp2_with (first | (go_at_call 38; refine HCK.out.mono ?_; rintro e w2 ⟨rfl, hb2⟩) | (at_builtin; refine app_str rfl _ _ rfl w.heap.size _ _ _ (bytesS k n d) (own_below HO.out hb2) rfl rfl (by omega) hbs2 (Nat.le_trans hsz hb2.size) ?_; intro v3 w3 ho3 hb3 _))
      go_roundw
      case rel => exact ⟨j + 1, by omega, by go_num, by rw [HTK.out, List.length_append, bv_app, dataI_cells, dataI_len]; exact ho3, (below_aft HB.out hb2).trans hb3⟩
      case measure => simp [intOf]; omega
    · have hjl : j = l.length := by omega
      subst hjl
      go_wp2
      go_ret2
      exact ⟨_, rfl, by have h := HO.out; rwa [List.take_length] at h, HB.out⟩

end Go.Proofs.YtepinmeidjlmmaaDoor

namespace Go.Proofs.YtepinmeidjlmmaaDoor
open Go.RowKit

set_option maxRecDepth 100000 in
set_option maxHeartbeats 400000 in
theorem light_long (a : Option Addr) (len cap : Nat) (w : World) (h : 100 < len) : Calls Tryd.prog 14 #[.slice a len cap] w fun e w' => e = .returned (.bool false) ∧ w = w' := by
  have h1 : (100 : Int) < (len : Int) := by omega
  go_enter Tryd.func14, Tryd.ntmps14
  go_wp2
  go_ret
  exact ⟨rfl, rfl⟩

set_option maxRecDepth 100000 in
set_option maxHeartbeats 400000 in
theorem light_any (l : List It) (v : Value) (w : World) (hI : ItemsAt w w.heap.size v l) (h : l.length ≤ 100) :
    Calls Tryd.prog 14 #[v] w fun e w' => e = .returned (.bool (l.all fun x => decide (x.d.size ≤ 1100))) ∧ w = w' := by
  rcases hI.form with ⟨rfl, rfl⟩ | ⟨b, off, cap, rfl, hb, hcells⟩
  · clear hI
    go_enter Tryd.func14, Tryd.ntmps14
    go_wp2_with fail
    refine wp_loop_rounds 1 ?_
    rw [rounds_succ]
    go_wp2
    go_ret
    exact ⟨rfl, rfl⟩
  · have h1 : (l.length : Int) ≤ 100 := by omega
    have HC := Lib.hid hcells
    clear hI hcells
    go_enter Tryd.func14, Tryd.ntmps14
    go_wp2_with fail
    go_loopw [3] (fun i wr => ∃ j : Nat, j ≤ l.length ∧ i = .int .i64 j ∧ w = wr ∧ ∀ i (h : i < l.length), i < j → l[i].d.size ≤ 1100) (fun i _ => l.length - (intOf i).toNat)
    case atStart => exact ⟨0, by omega, rfl, rfl, by intro i h1 h2; omega⟩
    case round =>
      obtain ⟨j, hj, rfl, rfl, hall⟩ := hrel
      have HALL := Lib.hid hall
      clear hall
      by_cases hlt : j < l.length
      · obtain ⟨q0, q1, q2⟩ := HC.out j hlt
        have hxe : Hid (∃ x, l[j] = x) := ⟨_, rfl⟩
        by_cases hs : l[j].d.size ≤ 1100
        · have HN : Hid (∀ i (h : i < l.length), i < j + 1 → l[i].d.size ≤ 1100) := fun i h1 h2 => by
            by_cases e : i = j
            · subst e; exact hs
            · exact HALL.out i h1 (by omega)
          have hs2 : (l[j].d.size : Int) ≤ 1100 := by omega
          generalize l[j] = x at q0 q1 q2 hs hs2
          go_wp2_with fail
          go_roundw
          case rel => exact ⟨j + 1, by omega, by go_num, by first | rfl | trivial, HN.out⟩
          case measure => simp [intOf]; omega
        · have HN : Hid ((l.all fun x => decide (x.d.size ≤ 1100)) = false) := by
            show (l.all fun x => decide (x.d.size ≤ 1100)) = false
            rw [List.all_eq_false]
            exact ⟨l[j], List.getElem_mem hlt, by simpa using hs⟩
          have hs2 : (1100 : Int) < (l[j].d.size : Int) := by omega
          generalize l[j] = x at q0 q1 q2 hs hs2
          go_wp2
          go_ret
          exact ⟨by rw [HN.out]; rfl, rfl⟩
      · have HN : Hid ((l.all fun x => decide (x.d.size ≤ 1100)) = true) := by
          show (l.all fun x => decide (x.d.size ≤ 1100)) = true
          rw [List.all_eq_true]
          intro x hx
          obtain ⟨i, hi, rfl⟩ := List.mem_iff_getElem.1 hx
          have := HALL.out i hi (by omega)
          simpa using this
        go_wp2
        go_ret
        exact ⟨by rw [HN.out]; rfl, rfl⟩

set_option maxRecDepth 100000 in
set_option maxHeartbeats 400000 in
/-- a list that is not light: the law answers what 'awake' answers -/
theorem validates_dark (v : Value) (w : World) (ht : Tabs w) (hL : Calls Tryd.prog 14 #[v] w fun e w' => e = .returned (.bool false) ∧ w = w') : Calls Tryd.prog 3 #[v] w fun e w' => e = .returned (.bool true) ∧ Below w.heap.size w w' := by
  have HA := Lib.hid (awake_any w ht)
  have HL := Lib.hid hL
  clear ht hL
  go_enter Tryd.func3, Tryd.ntmps3
  go_wp2_with (first | (go_at_call 14; refine HL.out.mono ?_; rintro e w1 ⟨rfl, rfl⟩) | (go_at_call 15; refine HA.out.mono ?_; rintro e w1 ⟨rfl, hb1⟩))
  go_ret
  exact ⟨rfl, hb1⟩

theorem conv_nil (W : World) : (convert 25 9 (.slice none 0 0)).run Tryd.prog W = .ok (.string ByteArray.empty) W := run_convert_bytes_nil W 25 5 Tryd.underlying25 Tryd.underlying5 0 0 9 Tryd.underlying9

set_option maxRecDepth 100000 in
set_option maxHeartbeats 1000000 in
theorem validates_bad (v : Value) (E : Int) (w : World) (_ : E ≠ 0) (hL : Calls Tryd.prog 14 #[v] w fun e w' => e = .returned (.bool true) ∧ w = w')
    (hA : ∀ W, Below w.heap.size w W → Calls Tryd.prog 15 #[] W fun e w' => e = .returned (.bool true) ∧ Below W.heap.size W w')
    (h16 : ∀ W, Below w.heap.size w W → Calls Tryd.prog 16 #[v] W fun e w' => e = .returned (.tuple #[.slice none 0 0, .int .i64 E]) ∧ Below W.heap.size W w')
    (h17 : ∀ W, Below w.heap.size w W → Calls Tryd.prog 17 #[v] W fun e w' => e = .returned (.tuple #[.slice none 0 0, .int .i64 E]) ∧ Below W.heap.size W w')
    (h18 : ∀ W, Below w.heap.size w W → Calls Tryd.prog 18 #[v] W fun e w' => e = .returned (.int .i64 E) ∧ Below W.heap.size W w')
    (h19 : ∀ W, Below w.heap.size w W → Calls Tryd.prog 19 #[v] W fun e w' => e = .returned (.int .i64 E) ∧ Below W.heap.size W w') :
    Calls Tryd.prog 3 #[v] w fun e w' => e = .returned (.bool true) ∧ Below w.heap.size w w' := by
  have HL := Lib.hid hL
  have HA := Lib.hid hA
  have H16 := Lib.hid h16
  have H17 := Lib.hid h17
  have H18 := Lib.hid h18
  have H19 := Lib.hid h19
  have hcn := conv_nil
  clear hL hA h16 h17 h18 h19
  go_enter Tryd.func3, Tryd.ntmps3
  go_wp2_with (go_at_call 14; refine HL.out.mono ?_; rintro e w1 ⟨rfl, rfl⟩)
  refine (H16.out _ (Below.refl _ _)).mono ?_
  rintro e w2 ⟨rfl, hb2⟩
  go_wp2_with fail
  refine (H17.out _ hb2).mono ?_
  rintro e w3 ⟨rfl, hb3⟩
  have hB3 := below_aft hb2 hb3
  go_wp2_with fail
  refine (H18.out _ hB3).mono ?_
  rintro e w4 ⟨rfl, hb4⟩
  have hB4 := below_aft hB3 hb4
  go_wp2_with fail
  refine (H19.out _ hB4).mono ?_
  rintro e w5 ⟨rfl, hb5⟩
  have hB5 := below_aft hB4 hb5
  go_wp2_with fail
  refine (HA.out _ hB5).mono ?_
  rintro e w6 ⟨rfl, hb6⟩
  go_wp2
  go_ret
  exact ⟨rfl, below_aft hB5 hb6⟩

set_option maxRecDepth 100000 in
set_option maxHeartbeats 1000000 in
theorem validates_good (v : Value) (l1 l2 : List Int) (w : World) (hp1 : 0 < l1.length) (hp2 : 0 < l2.length) (hsame : strOfNums l2 = strOfNums l1) (hL : Calls Tryd.prog 14 #[v] w fun e w' => e = .returned (.bool true) ∧ w = w')
    (hA : ∀ W, Below w.heap.size w W → Calls Tryd.prog 15 #[] W fun e w' => e = .returned (.bool true) ∧ Below W.heap.size W w')
    (h16 : ∀ W, Below w.heap.size w W → Calls Tryd.prog 16 #[v] W fun e w' => ∃ v', e = .returned (.tuple #[v', .int .i64 0]) ∧ NewBytes W l1 v' w')
    (h17 : ∀ W, Below w.heap.size w W → Calls Tryd.prog 17 #[v] W fun e w' => ∃ v', e = .returned (.tuple #[v', .int .i64 0]) ∧ NewBytes W l2 v' w')
    (h18 : ∀ W, Below w.heap.size w W → Calls Tryd.prog 18 #[v] W fun e w' => e = .returned (.int .i64 0) ∧ Below W.heap.size W w')
    (h19 : ∀ W, Below w.heap.size w W → Calls Tryd.prog 19 #[v] W fun e w' => e = .returned (.int .i64 0) ∧ Below W.heap.size W w') :
    Calls Tryd.prog 3 #[v] w fun e w' => e = .returned (.bool true) ∧ Below w.heap.size w w' := by
  have HL := Lib.hid hL
  have HA := Lib.hid hA
  have H16 := Lib.hid h16
  have H17 := Lib.hid h17
  have H18 := Lib.hid h18
  have H19 := Lib.hid h19
  clear hL hA h16 h17 h18 h19
  go_enter Tryd.func3, Tryd.ntmps3
  go_wp2_with (go_at_call 14; refine HL.out.mono ?_; rintro e w1 ⟨rfl, rfl⟩)
  refine (H16.out _ (Below.refl _ _)).mono ?_
  rintro e w2 ⟨v2, rfl, ho2, hb2⟩
  go_wp2_with fail
  refine (H17.out _ hb2).mono ?_
  rintro e w3 ⟨v3, rfl, ho3, hb3⟩
  have hB3 := below_aft hb2 hb3
  go_wp2_with fail
  refine (H18.out _ hB3).mono ?_
  rintro e w4 ⟨rfl, hb4⟩
  have hB4 := below_aft hB3 hb4
  go_wp2_with fail
  refine (H19.out _ hB4).mono ?_
  rintro e w5 ⟨rfl, hb5⟩
  have hB5 := below_aft hB4 hb5
  have k1 := conv_row (own_below (own_below (own_below ho2 hb3) hb4) hb5) hp1
  have k2 := conv_row (own_below (own_below ho3 hb4) hb5) hp2
  rw [hsame] at k2
  clear ho2 ho3
  go_wp2_with fail
  refine (HA.out _ hB5).mono ?_
  rintro e w6 ⟨rfl, hb6⟩
  go_wp2
  go_ret
  exact ⟨rfl, below_aft hB5 hb6⟩

theorem encAll_pos {l : List It} (h : 0 < l.length) (hs : ∀ x ∈ l, Sound x) (h2 : ∀ x ∈ l, shapeB x.k x.n x.d = true) : 0 < (encAll l).length ∧ 0 < (encAllR l).length := by
  have e : (encAllR l).length = (encAll l).length := by
    have := congrArg List.length (enc_same l hs h2)
    simpa [Lib.bytesOf] using this
  cases l with
  | nil => simp at h
  | cons x r =>
    have e1 : encAllR (x :: r) = dataI (bytesS x.k x.n x.d) ++ encAllR r := by simp [encAllR]
    have h3 : 0 < (dataI (bytesS x.k x.n x.d)).length := by
      have := bytesS_ne x.k x.n x.d
      rw [dataI_len]
      rcases Nat.eq_zero_or_pos (bytesS x.k x.n x.d).size with h0 | h0
      · exfalso
        have h4 : (bytesS x.k x.n x.d).data.toList = [] := by
          apply List.eq_nil_of_length_eq_zero
          rw [Array.length_toList]; exact h0
        rw [Lib.toList_data, h4] at this
        cases this
      · exact h0
    have h5 : 0 < (encAllR (x :: r)).length := by rw [e1, List.length_append]; omega
    exact ⟨by omega, h5⟩

/-- the law, for items that lie in memory as a []api.Item -/
theorem validates_any (l : List It) (v : Value) (w : World) (hI : ItemsAt w w.heap.size v l) (ht : Tabs w) (h : l.length ≤ 100) : Calls Tryd.prog 3 #[v] w fun e w' => e = .returned (.bool true) ∧ Below w.heap.size w w' := by
  have hL := light_any l v w hI h
  cases hl : (l.all fun x => decide (x.d.size ≤ 1100)) with
  | false =>
    rw [hl] at hL
    exact validates_dark v w ht hL
  | true =>
    rw [hl] at hL
    have hpos : ∀ x ∈ l, 0 ≤ x.n := fun x hx => (hI.ok x hx).1
    have hI2 : ∀ W, Below w.heap.size w W → ItemsAt W W.heap.size v l := fun W hW => itemsAt_mono (hI.below hW) hW.size
    have hA : ∀ W, Below w.heap.size w W → Calls Tryd.prog 15 #[] W fun e w' => e = .returned (.bool true) ∧ Below W.heap.size W w' := fun W hW => awake_any W (ht.later hW)
    have h18 := fun W (hW : Below w.heap.size w W) => validate_any l v W (hI2 W hW) (ht.later hW)
    have h19 := fun W (hW : Below w.heap.size w W) => validR_any l v W (hI2 W hW) (ht.later hW)
    rw [← valid_same l hpos] at h19
    by_cases hz : validE l = 0
    · have hzR : validR l = 0 := by rw [← valid_same l hpos]; exact hz
      have hS := (validGo_sound l 0 [] hpos hz).1
      have hsh := validGo_shape l 0 [] hz
      have hlen0 : 0 < l.length := by
        cases l with
        | nil => exact absurd hz (by decide)
        | cons a b => simp
      have hp := encAll_pos hlen0 hS hsh
      rw [hz] at h18 h19
      exact validates_good v (encAll l) (encAllR l) w hp.1 hp.2 (strOf_same hS hsh) hL hA (fun W hW => encode_good l v W (hI2 W hW) (ht.later hW) hz) (fun W hW => encodeR_good l v W (hI2 W hW) (ht.later hW) hzR hS (by omega)) h18 h19
    · have hzR : validR l ≠ 0 := by rw [← valid_same l hpos]; exact hz
      have h17 := fun W (hW : Below w.heap.size w W) => encodeR_bad l v W (hI2 W hW) (ht.later hW) hzR
      rw [← valid_same l hpos] at h17
      exact validates_bad v (validE l) w hz hL hA (fun W hW => encode_bad l v W (hI2 W hW) (ht.later hW) hz) h17 h18 h19

end Go.Proofs.YtepinmeidjlmmaaDoor

/- From what the rows list of the program's tables to the predicate that the contracts ask. -/
namespace Go.Proofs.YtepinmeidjlmmaaDoor
open Go.ChangeShapes Go.WideShapes Go.ChangeAt Go.RowKit Go.Lib

def laid4 : List (String × DataW Unit) := [("math/bits.deBruijn32tab", Rows.laid_math_bits_deBruijn32tab), ("math/bits.deBruijn64tab", Rows.laid_math_bits_deBruijn64tab), ("unicode/utf8.acceptRanges", Rows.laid_unicode_utf8_acceptRanges), ("unicode/utf8.first", Rows.laid_unicode_utf8_first)]

theorem tryd_own : ownKnob Tryd.prog.godebug = none := by kernel_rfl
theorem tryd_laidOut : laidOutB Tryd.prog = true := by kernel_rfl
theorem tryd_u8types : U8Types Tryd.prog Tryd.lays196_ren := U8Types.of196 Tryd.lays196
theorem tryd_u8extra : U8Extra Tryd.prog Tryd.lays196_ren where
  n3 := by kernel_rfl
  n4 := by kernel_rfl
  y3 := by kernel_rfl
  y4 := by kernel_rfl
  c5 := by kernel_rfl
  c119 := by kernel_rfl
  c138 := by kernel_rfl
theorem first_is : Rows.laid_unicode_utf8_first = firstData := by kernel_rfl
theorem accept_is : (Rows.laid_unicode_utf8_acceptRanges : DataW Unit) = acceptData := by kernel_rfl
def tab64 : List Int := [0, 1, 56, 2, 57, 49, 28, 3, 61, 58, 42, 50, 38, 29, 17, 4, 62, 47, 59, 36, 45, 43, 51, 22, 53, 39, 33, 30, 24, 18, 12, 5, 63, 55, 48, 27, 60, 41, 37, 16, 46, 35, 44, 21, 52, 32, 23, 11, 54, 26, 40, 15, 34, 20, 31, 10, 25, 14, 19, 9, 13, 8, 7, 6]
theorem tab64_is : (Rows.laid_math_bits_deBruijn64tab : DataW Unit) = tabData .u8 tab64 := by kernel_rfl

theorem cell_lt {w : World} {b o : Nat} {v : Value} (h : w.cell? ⟨b, o, none⟩ = some v) : b < w.heap.size := by
  rcases Nat.lt_or_ge b w.heap.size with h1 | h1
  · exact h1
  · unfold World.cell? at h
    simp [Array.getElem?_eq_none h1] at h

theorem tabs_of_laid {W : World} (h : laidMetH Tryd.prog laid4 W) : Tabs W := by
  rw [MakeChecks.laidMetH_plain _ _ _ (by kernel_rfl)] at h
  have h3 := laidMet.reads h (n := "unicode/utf8.first") (d := firstData) (by rw [laid4, first_is]; simp)
  have h4 := laidMet.reads h (n := "unicode/utf8.acceptRanges") (d := acceptData) (by rw [laid4, accept_is]; simp)
  have h64 := laidMet.reads h (n := "math/bits.deBruijn64tab") (d := tabData .u8 tab64) (by rw [laid4, tab64_is]; simp)
  obtain ⟨g, t, cs, fuel, p, hg, hty, hvar, hd⟩ := h64
  obtain rfl := Option.some.inj ((show Tryd.prog.globalNamed "math/bits.deBruijn64tab" = some 3 by kernel_rfl).symm.trans hg)
  obtain rfl := Option.some.inj ((show (Tryd.prog.globals[3]?).map (·.type) = some 145 by kernel_rfl).symm.trans hty)
  have hcs := cells_of_tab Tryd.underlying145 Tryd.underlying5 (by kernel_rfl) (by kernel_rfl) hd
  have hc : ∀ c, W.cell? ⟨3, c, none⟩ = (tab64.map fun z => Value.int .u8 z)[c]? := fun c => by
    rw [World.var?_cell hg hvar c, ← Array.getElem?_toList, hcs]
  have z0 : W.cell? ⟨3, 0, none⟩ = some (.int .u8 0) := hc 0
  exact ⟨⟨z0, hc 1, hc 3, hc 7, cell_lt z0⟩, utf8Tabs_of_readsT tryd_u8types tryd_u8extra h3 h4⟩

end Go.Proofs.YtepinmeidjlmmaaDoor

namespace Go.Proofs.YtepinmeidjlmmaaDoor
open Go.RowKit

theorem heap_alloc_if (w : World) (o : Obj) (n : Nat) : (w.alloc o).heap[n]? = if n = w.heap.size then some o else w.heap[n]? := by
  show (w.heap.push o)[n]? = _
  rw [Array.getElem?_push]
theorem heap_drewN (w : World) (m : Nat) : (w.drewN m).heap = w.heap := rfl
theorem heap_drew (w : World) : w.drew.heap = w.heap := rfl

/-- what []byte reads as: a string -/
def ConvAt (w : World) (B : Nat) (v : Value) (sb : ByteArray) : Prop := ∀ W : World, Below B w W → (convert 25 9 v).run Tryd.prog W = .ok (.string sb) W

set_option maxRecDepth 100000 in
set_option maxHeartbeats 400000 in
theorem bytes_any (v : Value) (sb : ByteArray) (w : World) (h : (convert 25 9 v).run Tryd.prog w = .ok (.string sb) w) : Calls Tryd.prog 35 #[v] w (OneNew w 3 0 sb) := by
  go_enter Tryd.func35, Tryd.ntmps35
  go_wp2
  go_ret
  exact ⟨rfl, rfl⟩

def TwoNew (w : World) (k n : Int) (d : ByteArray) (e : Ending) (w' : World) : Prop := e = .returned (.slice (some ⟨w.heap.size + 1, 0, none⟩) 1 1) ∧ (w.alloc (.cells (itemCs k n d) 58)).alloc (.cells (itemCs k n d) 58) = w'
set_option maxRecDepth 100000 in
set_option maxHeartbeats 400000 in
theorem bool_any (v : Bool) (w : World) : Calls Tryd.prog 29 #[.bool v] w (TwoNew w 7 (if v = true then 1 else 0) ⟨#[]⟩) := by
  cases v
  · go_enter Tryd.func29, Tryd.ntmps29
    go_wp2
    go_ret
    exact ⟨rfl, rfl⟩
  · go_enter Tryd.func29, Tryd.ntmps29
    go_wp2
    go_ret
    exact ⟨rfl, rfl⟩

theorem below_after {w W w9 : World} (h1 : Below w.heap.size w W) (h2 : Below W.heap.size W w9) : Below w.heap.size w w9 := h1.trans (h2.mono h1.size)
theorem heap_alloc_size (w : World) (o : Obj) : (w.alloc o).heap.size = w.heap.size + 1 := by simp

theorem CS.of {w W : World} {v : Value} {sb : ByteArray} (h : ConvAt w w.heap.size v sb) (hb : Below w.heap.size w W) : Below w.heap.size w W ∧ (convert 25 9 v).run Tryd.prog W = .ok (.string sb) W := ⟨hb, h W hb⟩
theorem bool_true (w : World) : Calls Tryd.prog 29 #[.bool true] w (TwoNew w 7 1 ⟨#[]⟩) := bool_any true w
theorem bool_false (w : World) : Calls Tryd.prog 29 #[.bool false] w (TwoNew w 7 0 ⟨#[]⟩) := bool_any false w

end Go.Proofs.YtepinmeidjlmmaaDoor

/- What every law's row asks alike: arguments read behind the call as before it; a []byte argument turned into a string; the tied card. -/
namespace Go.Proofs.YtepinmeidjlmmaaDoor
set_option maxRecDepth 100000
open Go.ChangeShapes Go.WideShapes Go.ChangeAt Go.RowKit

theorem args_again {H : Type} {enc : TypeId × Value → H} {W W' : World} (hb : Below W.heap.size W W') : ∀ {ts : List TypeId} {vs : List Value} {ds : List (DataW H)} {ps : List MemPlace},
    (∀ t ∈ ts, Tryd.prog.readableRec t = true ∧ t < Tryd.prog.types.size) → DataW.TrodAll enc Tryd.prog W 0 (fun _ => true) true ts vs ds ps → (∀ x ∈ ps, x.block < W.heap.size) →
    DataW.TrodAll enc Tryd.prog W' 0 (fun b => decide (b < W.heap.size)) true ts vs ds ps
  | [], vs, ds, ps, _, h, _ => by
    obtain ⟨rfl, rfl, rfl⟩ := trodAll_nil h
    exact trodAll_mk0
  | t :: ts, vs, ds, ps, hts, h, hlt => by
    obtain ⟨v, vs', d, ds', p, p', rfl, rfl, rfl, h1, h2⟩ := trodAll_cons h
    exact trodAll_cons_mk (Below.trod tryd_laidOut (hts t (by simp)).1 (hts t (by simp)).2 h1 hb fun x hx => hlt x (by simp [hx]))
      (args_again hb (fun u hu => hts u (by simp [hu])) h2 fun x hx => hlt x (by simp [hx]))

/-- A law that answers true and writes no cell that was there: what the row asks of its end. -/
theorem post_true {H : Type} {enc : TypeId × Value → H} {f : Func} {s : ChangeSpec} {W W' : World} {args : Array Value} {ds : List (DataW H)} {before : List MemPlace}
    (hW : DataW.Whole enc Tryd.prog f.params.toList s.vars false W args.toList ds [] before) (hv : s.vars = []) (hb : Below W.heap.size W W')
    (hA : DataW.TrodAll enc Tryd.prog W 0 (fun _ => true) true f.params.toList args.toList ds before)
    (hts : ∀ t ∈ f.params.toList, Tryd.prog.readableRec t = true ∧ t < Tryd.prog.types.size) (hres : f.resultTypes.toList = [4]) (hsz : f.resultTypes.size = 1)
    (hfn : s.fn H (ds ++ []) = { results := [.lit (.bool true)], args := ds, vars := [] }) :
    s.post enc Tryd.prog f false true false false W args (.bool true) W' := by
  refine ⟨ds, [], before, [], before, [], hW, ?_, ?_, ?_, hb.frame _, fun h => by cases h⟩
  · rw [hfn, hres, hsz]
    exact trodAll_mk1 (shut_bool Tryd.underlying4 _)
  · rw [hfn]
    exact args_again hb hts hA fun x hx => by simpa using hW.lt x hx
  · rw [hfn, hv]
    rfl

theorem run_convert_bytes_at (w : World) (a : Addr) (len cap : Nat) (xs : List Int) (hlen : xs.length = len) (hcell : ∀ i, i < len → w.cell? (a.add i) = some (.int .u8 (xs.getD i 0))) :
    (convert 25 9 (.slice (some a) len cap)).run Tryd.prog w = .ok (.string (strOfNums xs)) w := by
  have hl : (loadCells a len).run Tryd.prog w = .ok (xs.map (Value.int .u8)).toArray w := by
    have := run_loadCells_list (P := Tryd.prog) w a (xs.map (Value.int .u8)) (fun j v hj => by
      have hjl : j < xs.length := by
        rcases Nat.lt_or_ge j xs.length with h | h
        · exact h
        · simp [List.getElem?_eq_none (show (xs.map (Value.int .u8)).length ≤ j by simpa using h)] at hj
      rw [hcell j (by omega)]
      simp [List.getElem?_eq_getElem hjl] at hj
      subst hj
      simp [List.getD, List.getElem?_eq_getElem hjl])
    simpa [hlen] using this
  rw [run_convert_bytes_string w 25 9 5 _ len cap Tryd.underlying25 Tryd.underlying5 Tryd.underlying9, run_bytesToString w _ len cap xs hl, foldl_push_bytes]
  simp [strOfNums, ByteArray.empty, ByteArray.emptyWithCapacity]
  rfl

set_option maxRecDepth 100000 in
theorem tryd_cells5 : Tryd.prog.cellsOf 5 = 1 := by kernel_rfl

set_option maxRecDepth 100000 in
theorem u8_of_wf {z : Int} (h : (Lit.int .u8 z).wf = true) : 0 ≤ z ∧ z ≤ 255 := by
  have h1 : (decide (IntKind.u8.min ≤ z) && decide (z ≤ IntKind.u8.max)) = true := h
  simp only [Bool.and_eq_true, decide_eq_true_eq] at h1
  exact ⟨h1.1, h1.2⟩
theorem u64_of_wf {z : Int} (h : (Lit.int .u64 z).wf = true) : 0 ≤ z ∧ z ≤ 18446744073709551615 := by
  have h1 : (decide (IntKind.u64.min ≤ z) && decide (z ≤ IntKind.u64.max)) = true := h
  simp only [Bool.and_eq_true, decide_eq_true_eq] at h1
  exact ⟨h1.1, h1.2⟩

/-- A []byte argument, opened: nil or a row of bytes; in every later world it reads as one string. -/
theorem open_bytes {H : Type} {enc : TypeId × Value → H} {W : World} {b0 base : Nat} {r : Reach} {v : Value} {d : DataW H} {ps : List MemPlace} (hval : Value.okWide Tryd.prog W r b0 25 v) (hd : DataW.Trod enc Tryd.prog W base (fun _ => true) true 25 v d ps) :
    ∃ (a : Option Addr) (len cap : Nat) (zs : List Int), v = .slice a len cap ∧ zs.length = len ∧ (∀ z ∈ zs, 0 ≤ z ∧ z ≤ 255) ∧ ConvAt W W.heap.size (.slice a len cap) (strOfNums zs) ∧ len ≤ maxLen ∧
      ((a = none ∧ len = 0 ∧ cap = 0) ∨ ∃ b, a = some b ∧ len ≤ cap ∧ ∀ i, i < len → W.cell? (b.add i) = some (.int .u8 (zs.getD i 0))) := by
  obtain ⟨a0, len, cap, rfl⟩ := okWide_slice Tryd.underlying25 hval
  obtain ⟨fuel, hf⟩ := hd
  rcases open_ints Tryd.underlying25 Tryd.underlying5 tryd_cells5 hf with ⟨hcs, hx⟩ | ⟨a, len', cap', zs, hcs, _, hl, hm, hz, hx, hcell, hwz⟩
  · simp [Value.cells] at hcs
    obtain ⟨rfl, rfl, rfl⟩ := hcs
    refine ⟨none, 0, 0, [], rfl, rfl, (by simp), fun W' _ => ?_, (by unfold maxLen; omega), .inl ⟨rfl, rfl, rfl⟩⟩
    exact run_convert_bytes_nil W' 25 5 Tryd.underlying25 Tryd.underlying5 0 0 9 Tryd.underlying9
  · simp [Value.cells] at hcs
    obtain ⟨rfl, rfl, rfl⟩ := hcs
    simp only [if_true] at hz
    have hc : ∀ i, i < len → W.cell? (a.add i) = some (.int .u8 ((zs.take len).getD i 0)) := fun i hi => by
      rw [hcell i (by omega)]
      simp [List.getD, hi]
    have hlt : (zs.take len).length = len := by simp; omega
    refine ⟨some a, len, cap, zs.take len, rfl, hlt, fun z hzm => ?_, fun W' hW' => run_convert_bytes_at W' a len cap _ hlt fun i hi => ?_, by omega, .inr ⟨a, rfl, hl, hc⟩⟩
    · exact u8_of_wf (hwz z (List.mem_of_mem_take hzm))
    · have h1 := hc i hi
      refine (hW'.cell ?_).trans h1
      have : (a.add i).block < W.heap.size := by
        obtain ⟨b, off, spot⟩ := a
        rcases Nat.lt_or_ge b W.heap.size with h2 | h2
        · unfold Addr.add; split <;> exact h2
        · unfold World.cell? at h1
          have hb : ((⟨b, off, spot⟩ : Addr).add i).block = b := by unfold Addr.add; split <;> rfl
          simp [hb, Array.getElem?_eq_none h2] at h1
      exact this

end Go.Proofs.YtepinmeidjlmmaaDoor

namespace Go.Proofs.YtepinmeidjlmmaaDoor
open Go.ChangeShapes Go.WideShapes Go.ChangeAt Go.RowKit Go.Deep

set_option maxRecDepth 100000 in
set_option maxHeartbeats 400000 in
theorem light0 (a : Option Addr) (cap : Nat) (w : World) : Calls Tryd.prog 14 #[.slice a 0 cap] w fun e w' => e = .returned (.bool true) ∧ w = w' := by
  go_enter Tryd.func14, Tryd.ntmps14
  go_wp2_with fail
  refine wp_loop_rounds 1 ?_
  rw [rounds_succ]
  go_wp2
  go_ret
  exact ⟨rfl, rfl⟩

set_option maxRecDepth 100000 in
set_option maxHeartbeats 1000000 in
theorem valid0 (a : Option Addr) (cap : Nat) (w : World) : Calls Tryd.prog 18 #[.slice a 0 cap] w fun e w' => e = .returned (.int .i64 1) ∧ Below w.heap.size w w' := by
  have HN0 : Hid (nestAt (w.alloc (.cells #[.int .i64 0, .slice none 0 0] 68)) (w.heap.size + 1) w.heap.size 0 [] (.slice none 0 0)) :=
    ⟨by simp, by simp, by simp, by simp, World.ownsRow_nil _ _ _ _, by omega, by simp, by simp, by omega, by simp⟩
  have HB0 := Lib.hid ((Below.refl w.heap.size w).alloc (Nat.le_refl _) (.cells #[.int .i64 0, .slice none 0 0] 68))
  go_enter Tryd.func18, Tryd.ntmps18
  go_wp2_with fail
  go_loopw [9] (fun i wr => i = .int .i64 0 ∧ nestAt wr (w.heap.size + 1) w.heap.size 0 [] (.slice none 0 0) ∧ Below w.heap.size w wr) (fun _ _ => 0)
  case atStart => exact ⟨rfl, HN0.out, HB0.out⟩
  case round =>
    obtain ⟨rfl, hn, hb⟩ := hrel
    have HN := Lib.hid hn
    have HB := Lib.hid hb
    clear hn hb
    have hcb : compB 0 [] = false := rfl
    go_wp2_with (go_at_call 41; refine (complete_any _ HN.out).mono ?_; rintro e w' ⟨rfl, rfl⟩)
    go_ret
    exact ⟨rfl, HB.out⟩

set_option maxRecDepth 100000 in
set_option maxHeartbeats 1000000 in
theorem encode_bad_of (v : Value) (E : Int) (w : World) (hV : Calls Tryd.prog 18 #[v] w fun e w' => e = .returned (.int .i64 E) ∧ Below w.heap.size w w') (hz : E ≠ 0) :
    Calls Tryd.prog 16 #[v] w fun e w' => e = .returned (.tuple #[.slice none 0 0, .int .i64 E]) ∧ Below w.heap.size w w' := by
  have HV := Lib.hid hV
  have hzb : (E != 0) = true := by simpa using hz
  clear hV hz
  go_enter Tryd.func16, Tryd.ntmps16
  go_wp2_with (go_at_call 18; refine HV.out.mono ?_; rintro e w1 ⟨rfl, hb1⟩)
  go_ret2
  exact ⟨rfl, hb1⟩
set_option maxRecDepth 100000 in
set_option maxHeartbeats 1000000 in
theorem encodeR_bad_of (v : Value) (E : Int) (w : World) (hV : Calls Tryd.prog 19 #[v] w fun e w' => e = .returned (.int .i64 E) ∧ Below w.heap.size w w') (hz : E ≠ 0) :
    Calls Tryd.prog 17 #[v] w fun e w' => e = .returned (.tuple #[.slice none 0 0, .int .i64 E]) ∧ Below w.heap.size w w' := by
  have HV := Lib.hid hV
  have hzb : (E != 0) = true := by simpa using hz
  clear hV hz
  go_enter Tryd.func17, Tryd.ntmps17
  go_wp2_with (go_at_call 19; refine HV.out.mono ?_; rintro e w1 ⟨rfl, hb1⟩)
  go_ret2
  exact ⟨rfl, hb1⟩

theorem validR0 (a : Option Addr) (cap : Nat) (w : World) : Calls Tryd.prog 19 #[.slice a 0 cap] w fun e w' => e = .returned (.int .i64 1) ∧ Below w.heap.size w w' :=
  validR_of (0, 1) 0 a cap w (walk_end a 0 cap 0 0 false ⟨#[]⟩ w (Nat.le_refl _))

theorem validates_empty (a : Option Addr) (cap : Nat) (w : World) (ht : Tabs w) : Calls Tryd.prog 3 #[.slice a 0 cap] w fun e w' => e = .returned (.bool true) ∧ Below w.heap.size w w' :=
  validates_bad _ 1 w (by omega) (light0 a cap w) (fun W hW => awake_any W (ht.later hW)) (fun W _ => encode_bad_of _ 1 W (valid0 a cap W) (by omega)) (fun W _ => encodeR_bad_of _ 1 W (validR0 a cap W) (by omega)) (fun W _ => valid0 a cap W) (fun W _ => validR0 a cap W)

set_option maxRecDepth 100000
theorem tryd_cells58 : Tryd.prog.cellsOf 58 = 3 := by kernel_rfl
theorem tryd_cells3 : Tryd.prog.cellsOf 3 = 1 := by kernel_rfl
theorem tryd_cells45 : Tryd.prog.cellsOf 45 = 1 := by kernel_rfl
theorem tryd_cells9 : Tryd.prog.cellsOf 9 = 1 := by kernel_rfl

theorem add_add (b off i j : Nat) : ((⟨b, off, none⟩ : Addr).add i).add j = ⟨b, off + i + j, none⟩ := by
  unfold Addr.add
  split <;> split <;> simp_all [Nat.add_assoc]

/-- the three cells of an item -/
theorem item_cells {H : Type} {enc : TypeId × Value → H} {W : World} {base : Nat} {sp : Nat → Bool} {held : Bool} {fuel : Nat} {cs : List Value} {x : DataW H × List MemPlace} (h : DataW.trod enc Tryd.prog W base sp held fuel 58 cs = some x) :
    ∃ (k n : Int) (d : ByteArray), cs = [.int .i64 k, .int .u64 n, .string d] ∧ 0 ≤ n ∧ d.size ≤ maxLen := by
  obtain ⟨xs, m, rfl, _, hl, hxl, hall⟩ := DataW.trod_struct Tryd.underlying58 h
  rw [tryd_cells58] at hl
  match cs, hl with
  | [c0, c1, c2], _ =>
    have h0 : DataW.trod enc Tryd.prog W base sp held m 3 (([c0, c1, c2].drop 0).take (Tryd.prog.cellsOf 3)) = xs[0]? := hall 0 _ rfl
    have h1 : DataW.trod enc Tryd.prog W base sp held m 45 (([c0, c1, c2].drop 1).take (Tryd.prog.cellsOf 45)) = xs[1]? := hall 1 _ rfl
    have h2 : DataW.trod enc Tryd.prog W base sp held m 9 (([c0, c1, c2].drop 2).take (Tryd.prog.cellsOf 9)) = xs[2]? := hall 2 _ rfl
    rw [tryd_cells3] at h0
    rw [tryd_cells45] at h1
    rw [tryd_cells9] at h2
    have l0 : 0 < xs.length := by rw [hxl]; decide
    have l1 : 1 < xs.length := by rw [hxl]; decide
    have l2 : 2 < xs.length := by rw [hxl]; decide
    rw [List.getElem?_eq_getElem l0] at h0
    rw [List.getElem?_eq_getElem l1] at h1
    rw [List.getElem?_eq_getElem l2] at h2
    obtain ⟨k, e0, _, _⟩ := DataW.trod_int Tryd.underlying3 h0
    obtain ⟨n, e1, _, wn⟩ := DataW.trod_int Tryd.underlying45 h1
    obtain ⟨d, e2, _, hd⟩ := DataW.trod_string Tryd.underlying9 h2
    simp at e0 e1 e2
    subst e0 e1 e2
    exact ⟨k, n, d, rfl, (u64_of_wf wn).1, hd⟩

/-- a []api.Item argument, opened -/
theorem open_items {H : Type} {enc : TypeId × Value → H} {W : World} {b0 base : Nat} {r : Reach} {v : Value} {d : DataW H} {ps : List MemPlace} (hval : Value.okWide Tryd.prog W r b0 22 v) (hd : DataW.Trod enc Tryd.prog W base (fun _ => true) true 22 v d ps) :
    ∃ (a : Option Addr) (len cap : Nat), v = .slice a len cap ∧ (0 < len → len ≤ 1000 → ∃ l : List It, l.length = len ∧ ItemsAt W W.heap.size v l) := by
  obtain ⟨a0, len, cap, rfl⟩ := okWide_slice Tryd.underlying22 hval
  obtain ⟨fuel, hf⟩ := hd
  refine ⟨a0, len, cap, rfl, fun h0 h1 => ?_⟩
  rcases open_slice Tryd.underlying22 hf with ⟨hcs, hx⟩ | ⟨a, len', cap', m, n, D, Pl, hcs, _, hl, hm, hmm, hx, hcell⟩
  · simp [Value.cells] at hcs
    omega
  · simp [Value.cells] at hcs
    obtain ⟨rfl, rfl, rfl⟩ := hcs
    simp only [if_true] at hmm
    subst hmm
    rw [tryd_cells58] at hcell
    have hsp : a.spot = none := by
      obtain ⟨cs', hc1, hc2⟩ := hcell 0 (by omega)
      obtain ⟨_, _, h3⟩ := World.cells?_some hc1
      obtain ⟨k, n, d, rfl, _⟩ := item_cells hc2
      have := h3 0 (by omega)
      have h4 : W.cell? a = some (.int .i64 k) := by simpa [Addr.add] using this
      exact World.cell?_spot h4
    obtain ⟨b, off, spot⟩ := a
    simp only at hsp
    subst hsp
    have hx : ∀ i, i < len → ∃ x : It, (W.cell? ⟨b, off + i * 3, none⟩ = some (.int .i64 x.k) ∧ W.cell? ⟨b, off + i * 3 + 1, none⟩ = some (.int .u64 x.n) ∧ W.cell? ⟨b, off + i * 3 + 2, none⟩ = some (.string x.d)) ∧ 0 ≤ x.n ∧ x.d.size ≤ maxLen := fun i hi => by
      obtain ⟨cs', hc1, hc2⟩ := hcell i (by omega)
      obtain ⟨_, _, h3⟩ := World.cells?_some hc1
      obtain ⟨k, n, d, rfl, hn, hd⟩ := item_cells hc2
      have g0 := h3 0 (by omega)
      have g1 := h3 1 (by omega)
      have g2 := h3 2 (by omega)
      rw [add_add] at g0 g1 g2
      exact ⟨⟨k, n, d⟩, ⟨g0, g1, g2⟩, hn, hd⟩
    haveI : Inhabited It := ⟨⟨0, 0, ⟨#[]⟩⟩⟩
    obtain ⟨V, hV⟩ := choose_lt hx
    refine ⟨(List.range len).map V, by simp, ⟨.inr ⟨b, off, m, by simp, ?_, fun i hi => ?_⟩, fun x hx => ?_, by simp; omega⟩⟩
    · exact cell_lt (hV 0 h0).1.1
    · have hi' : i < len := by simpa using hi
      have e : ((List.range len).map V)[i] = V i := by simp
      rw [e]
      exact (hV i hi').1
    · obtain ⟨i, hi, rfl⟩ := List.mem_map.1 hx
      exact (hV i (by simpa using hi)).2

end Go.Proofs.YtepinmeidjlmmaaDoor

/- A reader over any bytes: take. -/
namespace Go.Proofs.YtepinmeidjlmmaaDoor
open Go.RowKit
set_option maxRecDepth 100000

/-- a slice value that holds the bytes zs -/
structure Bys (w : World) (A : Option Addr) (n : Nat) (zs : List Int) : Prop where
  len : zs.length = n
  rng : ∀ z ∈ zs, 0 ≤ z ∧ z ≤ 255
  at_ : ∀ i, i < n → ∃ a, A = some a ∧ w.cell? (a.add i) = some (.int .u8 (zs.getD i 0))
theorem add_add' (a : Addr) (i j : Nat) : (a.add i).add j = a.add (i + j) := by
  unfold Addr.add
  by_cases hi : i = 0 <;> by_cases hj : j = 0 <;> simp [hi, hj, Nat.add_assoc]
theorem block_add (a : Addr) (n : Nat) : (a.add n).block = a.block := by unfold Addr.add; split <;> rfl
theorem cell_in {w : World} {a : Addr} {v : Value} (h : w.cell? a = some v) : a.block < w.heap.size := by
  rcases Nat.lt_or_ge a.block w.heap.size with h1 | h1
  · exact h1
  · unfold World.cell? at h
    simp [Array.getElem?_eq_none h1] at h
theorem Bys.below {w w' : World} {A : Option Addr} {n : Nat} {zs : List Int} (h : Bys w A n zs) (hb : Below w.heap.size w w') : Bys w' A n zs :=
  ⟨h.len, h.rng, fun i hi => by
    obtain ⟨a, e, hc⟩ := h.at_ i hi
    exact ⟨a, e, (hb.cell (cell_in hc)).trans hc⟩⟩
/-- bytes below a block's number stay when what lies below it stays -/
def BysB (w : World) (B : Nat) (A : Option Addr) (n : Nat) (zs : List Int) : Prop := Bys w A n zs ∧ ∀ a, A = some a → 0 < n → a.block < B
theorem BysB.of {w : World} {A : Option Addr} {n : Nat} {zs : List Int} (h : Bys w A n zs) : BysB w w.heap.size A n zs :=
  ⟨h, fun a e h0 => by
    obtain ⟨a', e', hc⟩ := h.at_ 0 h0
    rw [e] at e'
    cases e'
    have := cell_in hc
    rw [block_add] at this
    exact this⟩
theorem BysB.below {w w' : World} {B : Nat} {A : Option Addr} {n : Nat} {zs : List Int} (h : BysB w B A n zs) (hb : Below B w w') : BysB w' B A n zs :=
  ⟨⟨h.1.len, h.1.rng, fun i hi => by
    obtain ⟨a, e, hc⟩ := h.1.at_ i hi
    exact ⟨a, e, (hb.cell (by rw [block_add]; exact h.2 a e (by omega))).trans hc⟩⟩, h.2⟩
theorem Bys.byte {w : World} {A : Option Addr} {n : Nat} {zs : List Int} (h : Bys w A n zs) (i : Nat) (hi : i < n) : 0 ≤ zs.getD i 0 ∧ zs.getD i 0 ≤ 255 := by
  have hl : i < zs.length := by have := h.len; omega
  simp only [List.getD, List.getElem?_eq_getElem hl, Option.getD_some]
  exact h.rng _ (List.getElem_mem hl)
/-- a stretch of them -/
def cutA (A : Option Addr) (cap at' : Nat) : Option Addr := if cap = at' then A else A.map (·.add at')
theorem Bys.cut {w : World} {A : Option Addr} {N cap : Nat} {zs : List Int} (h : Bys w A N zs) (at' n : Nat) (hn : at' + n ≤ N) (hc : N ≤ cap) :
    Bys w (cutA A cap at') n ((zs.drop at').take n) := by
  refine ⟨by have := h.len; simp; omega, fun z hz => h.rng z (List.mem_of_mem_drop (List.mem_of_mem_take hz)), fun i hi => ?_⟩
  obtain ⟨a, e, hcell⟩ := h.at_ (at' + i) (by omega)
  unfold cutA
  rw [if_neg (by omega), e]
  refine ⟨a.add at', rfl, ?_⟩
  rw [add_add', hcell]
  simp [List.getD, List.getElem?_drop, hi]
theorem cutA_eq (A : Option Addr) (at' : Nat) : cutA A at' at' = A := by unfold cutA; rw [if_pos rfl]
theorem cutA_ne {A : Option Addr} {cap at' : Nat} (h : cap ≠ at') : cutA A cap at' = A.map (·.add at') := by unfold cutA; rw [if_neg h]

/-- a reader at its input: not its nesting -/
structure Rd (w : World) (p : Nat) (A : Option Addr) (N cap at' : Nat) : Prop where
  inp : w.cell? ⟨p, 2, none⟩ = some (.slice A N cap)
  pos : w.cell? ⟨p, 3, none⟩ = some (.int .i64 at')
  fr : w.frozen? ⟨p, 3, none⟩ = false
  hcap : N ≤ cap
  hcm : cap ≤ 9223372036854775807
  hN : N ≤ 1000000000000
  hat : at' ≤ N

set_option maxHeartbeats 1000000 in
theorem tak_no (p : Nat) (A : Option Addr) (N cap at' : Nat) (n : Int) (w : World) (h : Rd w p A N cap at') (hn : (N : Int) < at' + n) (hn1 : n ≤ 18446744073709551615) :
    Calls Tryd.prog 66 #[.pointer (some ⟨p, 0, none⟩), .int .u64 n] w fun e w' => e = .returned (.tuple #[.slice none 0 0, .bool false]) ∧ ∃ m, w.drewN m = w' := by
  obtain ⟨h2, h3, _, _, _, hN, hat⟩ := h
  have k1 : ((N : Int) - (at' : Int)) < (n : Int) := by omega
  go_enter Tryd.func66, Tryd.ntmps66
  go_wp2_with fail
  go_quiet (fail)
  go_wp2
  go_ret2
  exact ⟨rfl, _, rfl⟩

theorem Rd.moved {w : World} {p : Nat} {A : Option Addr} {N cap at' : Nat} (h : Rd w p A N cap at') (m n : Nat) (hn : at' + n ≤ N) :
    RF p w ((w.drewN m).setCell ⟨p, 3, none⟩ (.int .i64 ((at' + n : Nat) : Int))) ∧ Rd ((w.drewN m).setCell ⟨p, 3, none⟩ (.int .i64 ((at' + n : Nat) : Int))) p A N cap (at' + n) :=
  ⟨RF.pos _ _ _ _, by rw [World.cell?_setCell_other _ _ _ _ (by simp)]; exact h.inp, World.cell?_setCell_same _ _ _ h.pos, by rw [World.frozen?_setCell]; exact h.fr, h.hcap, h.hcm, h.hN, hn⟩

set_option maxHeartbeats 1000000 in
theorem tak_yes (p : Nat) (A : Option Addr) (N cap at' n : Nat) (w : World) (h : Rd w p A N cap at') (hn : at' + n ≤ N) :
    Calls Tryd.prog 66 #[.pointer (some ⟨p, 0, none⟩), .int .u64 n] w fun e w' => e = .returned (.tuple #[.slice (cutA A cap at') n (cap - at'), .bool true]) ∧ RF p w w' ∧ Rd w' p A N cap (at' + n) := by
  have HM := Lib.hid (fun m => h.moved m n hn)
  have hm2 := fun m => h.moved m n hn
  rw [Int.natCast_add] at hm2
  have HM2 := Lib.hid hm2
  clear hm2
  obtain ⟨h2, h3, hf, hcap, hcm, hN, hat⟩ := h
  have k1 : ¬ ((N : Int) - (at' : Int)) < (n : Int) := by omega
  have k2 : (at' : Int) + (n : Int) ≤ (cap : Int) := by omega
  by_cases k3 : cap = at'
  · subst k3
    have hn0 : n = 0 := by omega
    subst hn0
    rw [cutA_eq]
    go_enter Tryd.func66, Tryd.ntmps66
    go_wp2_with fail
    go_quiet (fail)
    go_wp2_with fail
    go_quiet (fail)
    go_wp2
    go_ret2
    refine ⟨?_, HM.out _⟩
    show Ending.returned (.tuple #[.slice A 0 0, .bool true]) = _
    rw [Nat.sub_self]
  · rw [cutA_ne k3]
    go_enter Tryd.func66, Tryd.ntmps66
    go_wp2_with fail
    go_quiet (fail)
    go_wp2_with fail
    go_quiet (fail)
    go_wp2
    go_ret2
    refine ⟨?_, HM2.out _⟩
    show Ending.returned (.tuple #[.slice (Option.map (fun x => x.add at') A) (at' + n - at') (cap - at'), .bool true]) = _
    rw [Nat.add_sub_cancel_left]

theorem Rd.keep {w w' : World} {p : Nat} {A : Option Addr} {N cap at' : Nat} (h : Rd w p A N cap at') (hb : Below w.heap.size w w') : Rd w' p A N cap at' := by
  have hp := cell_in h.pos
  exact ⟨(hb.cell (p := ⟨p, 2, none⟩) hp).trans h.inp, (hb.cell (p := ⟨p, 3, none⟩) hp).trans h.pos, (hb.frozen (p := ⟨p, 3, none⟩) hp).trans h.fr, h.hcap, h.hcm, h.hN, h.hat⟩
end Go.Proofs.YtepinmeidjlmmaaDoor
