/- Joined: B1, B2, B3, B4, B5. -/
import Derived.Test.YtepinmeidjlmmaaDoorR2
import Derived.Lib.AppendZerosOnto
import Derived.Lib.SliceRun
namespace Go.Proofs.YtepinmeidjlmmaaDoor
open Go.RowKit

structure It where
  k : Int
  n : Int
  d : ByteArray

/-- the slice v reads as the items l in blocks below B -/
structure ItemsAt (w : World) (B : Nat) (v : Value) (l : List It) : Prop where
  form : (v = .slice none 0 0 ∧ l = []) ∨ ∃ b off cap, v = .slice (some ⟨b, off, none⟩) l.length cap ∧ b < B ∧ ∀ i (h : i < l.length), w.cell? ⟨b, off + i * 3, none⟩ = some (.int .i64 l[i].k) ∧ w.cell? ⟨b, off + i * 3 + 1, none⟩ = some (.int .u64 l[i].n) ∧ w.cell? ⟨b, off + i * 3 + 2, none⟩ = some (.string l[i].d)
  ok : ∀ x ∈ l, 0 ≤ x.n ∧ x.d.size ≤ maxLen
  len : l.length ≤ 1000000000000000
theorem ItemsAt.below {w w' : World} {B : Nat} {v : Value} {l : List It} (h : ItemsAt w B v l) (hb : Below B w w') : ItemsAt w' B v l :=
  ⟨by
    rcases h.form with h0 | ⟨b, off, cap, hv, hlt, hc⟩
    · exact .inl h0
    · exact .inr ⟨b, off, cap, hv, hlt, fun i hi => ⟨(hb.cell (p := ⟨b, off + i * 3, none⟩) hlt).trans (hc i hi).1, (hb.cell (p := ⟨b, off + i * 3 + 1, none⟩) hlt).trans (hc i hi).2.1, (hb.cell (p := ⟨b, off + i * 3 + 2, none⟩) hlt).trans (hc i hi).2.2⟩⟩, h.ok, h.len⟩

def validGo (c : Nat) (s : List Lv) : List It → Int
  | [] => if compB c s = true then 0 else 1
  | x :: r => if checkE c s x.k x.n x.d = 0 then validGo (c + 1) (enterS s x.k x.n x.d) r else checkE c s x.k x.n x.d
def validE (l : List It) : Int := validGo 0 [] l

/-- what a checked item is like -/
theorem check_zero {c : Nat} {s : List Lv} {k n : Int} {d : ByteArray} (h : checkE c s k n d = 0) :
    c < 512 ∧ 1 ≤ k ∧ k ≤ 8 ∧ (k = 7 → n ≤ 1) ∧ d.size ≤ 1024 ∧ (k = 5 → n ≤ 512) ∧ (k = 6 → n ≤ 512) ∧ s.length ≤ 8 ∧ (atKeyB s = true → (k = 1 ∨ k = 2 ∨ k = 4) ∧ d.size ≤ 1024) ∧ compB c s = false := by
  have hA : compB c s = false := by
    cases hA : compB c s with
    | false => rfl
    | true => rw [check2 hA] at h; cases h
  have hP : placeE c s k = 0 := by
    by_cases hP : placeE c s k = 0
    · exact hP
    · rw [checkP hA hP] at h; exact h
  have hS : shapeB k n d = true := by
    cases hS : shapeB k n d with
    | true => rfl
    | false => rw [check4 hA hP hS] at h; cases h
  have hL : tooLargeB k (argN k n d) = false := by
    cases hL : tooLargeB k (argN k n d) with
    | false => rfl
    | true => rw [check8 hA hP hS hL] at h; cases h
  obtain ⟨hc, hk1, hk8⟩ := place_kind hP
  obtain ⟨h7, hd⟩ := sound_item hS hL hk1
  have hpl := hP
  unfold placeE at hpl
  rw [if_neg (by omega), if_neg (by omega)] at hpl
  by_cases hkey : atKeyB s = true ∧ canKeyB k = false
  · rw [if_pos hkey] at hpl; cases hpl
  rw [if_neg hkey] at hpl
  have hlen : s.length ≤ 8 := by
    by_cases hl : 8 < s.length
    · rw [if_pos hl] at hpl; cases hpl
    · omega
  have hL2 := hL
  unfold tooLargeB tooManyB argN at hL2
  refine ⟨hc, hk1, hk8, h7, hd, fun h5 => ?_, fun h6 => ?_, hlen, fun hk => ⟨?_, hd⟩, hA⟩
  · subst h5; simp [hasDataB] at hL2; exact hL2
  · subst h6; simp [hasDataB] at hL2; exact hL2
  · have hcan : canKeyB k = true := by
      cases hcan : canKeyB k with
      | true => rfl
      | false => exact absurd ⟨hk, hcan⟩ hkey
    unfold canKeyB at hcan
    simp at hcan
    omega

theorem popAll_top {s : List Lv} : ∀ t r, popAll s = t :: r → t.mi ≠ 0 := by
  induction s with
  | nil => intro t r e; cases e
  | cons x y ih =>
    intro t r e
    by_cases h : x.mi = 0
    · rw [popAll_z h] at e; exact ih t r e
    · rw [popAll_nz h] at e; cases e; exact h

theorem top_pos {w : World} {base b c : Nat} {s : List Lv} {v : Value} (h : nestAt w base b c (popAll s) v) : ∀ t r, popAll s = t :: r → 1 ≤ t.mi := by
  intro t r e
  have h0 := popAll_top t r e
  have h1 := (h.ok t (by rw [e]; simp)).1
  omega

theorem NF.below {b : Nat} {w w' : World} (h : NF b w w') : Below b w w' := ⟨h.os, h.tape, h.output, h.size, h.low⟩

theorem validGo_nil {c : Nat} {s : List Lv} : validGo c s [] = if compB c s = true then 0 else 1 := rfl
theorem validGo_yes {c : Nat} {s : List Lv} {x : It} {r : List It} (h : checkE c s x.k x.n x.d = 0) : validGo c s (x :: r) = validGo (c + 1) (enterS s x.k x.n x.d) r := by simp [validGo, h]
theorem validGo_no {c : Nat} {s : List Lv} {x : It} {r : List It} (h : ¬ checkE c s x.k x.n x.d = 0) : validGo c s (x :: r) = checkE c s x.k x.n x.d := by simp [validGo, h]
theorem drop_at {l : List It} {j : Nat} (h : j < l.length) : l.drop j = l[j] :: l.drop (j + 1) := List.drop_eq_getElem_cons h

set_option maxRecDepth 100000 in
set_option maxHeartbeats 1000000 in
theorem validate_any (l : List It) (v : Value) (w : World) (hI : ItemsAt w w.heap.size v l) (ht : Tabs w) :
    Calls Tryd.prog 18 #[v] w fun e w' => e = .returned (.int .i64 (validE l)) ∧ Below w.heap.size w w' := by
  have hform := hI.form
  have hlen := hI.len
  have hok := hI.ok
  have HT := Lib.hid ht
  have hN0 : nestAt (w.alloc (.cells #[.int .i64 0, .slice none 0 0] 68)) (w.heap.size + 1) w.heap.size 0 [] (.slice none 0 0) :=
    ⟨by simp, by simp, by simp, by simp, World.ownsRow_nil _ _ _ _, by omega, by simp, by simp, by omega, by simp⟩
  have HN0 := Lib.hid hN0
  clear ht hN0
  have hB0 : Below w.heap.size w (w.alloc (.cells #[.int .i64 0, .slice none 0 0] 68)) := (Below.refl _ w).alloc (Nat.le_refl _) _
  have HB0 := Lib.hid hB0
  clear hB0
  rcases hform with ⟨rfl, rfl⟩ | ⟨b, off, cap, rfl, hb, hcells⟩
  · clear hlen hok hI
    go_enter Tryd.func18, Tryd.ntmps18
    go_wp2_with fail
    go_loopw [9] (fun i wr => i = .int .i64 0 ∧ nestAt wr (w.heap.size + 1) w.heap.size 0 [] (.slice none 0 0) ∧ Below w.heap.size w wr) (fun _ _ => 0)
    case atStart => exact ⟨rfl, HN0.out, HB0.out⟩
    case round =>
      obtain ⟨rfl, hn, hb⟩ := hrel
      have HN := Lib.hid hn
      have HB := Lib.hid hb
      clear hn hb
      have hcb : compB 0 [] = false := rfl
      go_wp2_with (go_at_call 41; refine (complete_any _ HN.out).mono ?_; rintro e w' ⟨rfl, rfl⟩)
      go_ret
      exact ⟨rfl, HB.out⟩
  · have HC := Lib.hid hcells
    have HOK := Lib.hid hok
    clear hcells hok hI
    go_enter Tryd.func18, Tryd.ntmps18
    go_wp2_with fail
    go_loopw [9] (fun i wr => ∃ j : Nat, j ≤ l.length ∧ i = .int .i64 j ∧ Below w.heap.size w wr ∧ ∃ c s v, nestAt wr (w.heap.size + 1) w.heap.size c s v ∧ (∀ t r, s = t :: r → 1 ≤ t.mi) ∧ validGo c s (l.drop j) = validE l) (fun i _ => l.length - (intOf i).toNat)
    case atStart => exact ⟨0, by omega, rfl, HB0.out, 0, [], _, HN0.out, by simp, rfl⟩
    case round =>
      obtain ⟨j, hj, rfl, hbw, c, s, v, hn, htop, hgo⟩ := hrel
      have HN := Lib.hid hn
      have HB := Lib.hid hbw
      have HTOP := Lib.hid htop
      have HGO := Lib.hid hgo
      have hsz : w.heap.size < wr.heap.size := Nat.lt_of_lt_of_le hn.lt hn.hb
      have hbr : b < wr.heap.size := by omega
      clear hn hbw htop hgo
      by_cases hlt : j < l.length
      · obtain ⟨c0, c1, c2⟩ := HC.out j hlt
        have q0 := (HB.out.cell (p := ⟨b, off + j * 3, none⟩) hb).trans c0
        have q1 := (HB.out.cell (p := ⟨b, off + j * 3 + 1, none⟩) hb).trans c1
        have q2 := (HB.out.cell (p := ⟨b, off + j * 3 + 2, none⟩) hb).trans c2
        clear c0 c1 c2
        obtain ⟨hx0, hxd⟩ := HOK.out l[j] (List.getElem_mem hlt)
        have hdr := drop_at hlt
        have HDR := Lib.hid hdr
        clear hdr
        generalize l[j] = x at q0 q1 q2 hx0 hxd HDR
        obtain ⟨k, n, d⟩ := x
        simp only at q0 q1 q2 hx0 hxd
        have hA : Below w.heap.size w (wr.alloc (.cells #[.int .i64 k, .int .u64 n, .string d] 58)) := HB.out.alloc (by omega) _
        have HA := Lib.hid hA
        clear hA
        have C := check_any k n d _ (HN.out.later ((Below.refl _ wr).alloc (Nat.le_refl _) (.cells #[.int .i64 k, .int .u64 n, .string d] 58))) (HT.out.later HA.out) hx0 hxd
        have HCK := Lib.hid C
        clear C
        by_cases hz : checkE c s k n d = 0
        · have hzb : (checkE c s k n d != 0) = false := by simp [hz]
          obtain ⟨z1, z2, z3, z4, z5, z6, z7, z8, z9, _⟩ := check_zero hz
          have HZ := Lib.hid hz
          clear hz
          have HE := Lib.hid (fun (W : World) (hW : nestAt W (w.heap.size + 1) w.heap.size c s v) => enter_any k n d W hW hx0 z7 z6 (by omega) (by omega) HTOP.out z9)
          clear z4 z6 z7 z9
          go_wp2_with (first | (go_at_call 39; refine HCK.out.mono ?_; rintro e w1 ⟨rfl, hb1⟩; have y0 : w1.cell? ⟨wr.heap.size, 0, none⟩ = some (.int .i64 k) := (hb1.cell (p := ⟨wr.heap.size, 0, none⟩) (by simp)).trans (by simp); have y1 : w1.cell? ⟨wr.heap.size, 1, none⟩ = some (.int .u64 n) := (hb1.cell (p := ⟨wr.heap.size, 1, none⟩) (by simp)).trans (by simp); have y2 : w1.cell? ⟨wr.heap.size, 2, none⟩ = some (.string d) := (hb1.cell (p := ⟨wr.heap.size, 2, none⟩) (by simp)).trans (by simp)) | (go_at_call 40; refine (HE.out _ (by exact (HN.out.later ((Below.refl _ wr).alloc (Nat.le_refl _) _)).later hb1)).mono ?_; rintro e w2 ⟨rfl, hF, v2, hn2⟩))
          go_roundw
          case rel =>
            have hb2 := HA.out.trans (hb1.mono HA.out.size)
            have hb3 := hb2.trans hF.below
            exact ⟨j + 1, by omega, by go_num, hb3, c + 1, enterS s k n d, v2, hn2, top_pos hn2, by rw [← HGO.out, HDR.out, validGo_yes HZ.out]⟩
          case measure => simp [intOf]; omega
        · have hzb : (checkE c s k n d != 0) = true := by simp [hz]
          have hv : validE l = checkE c s k n d := by rw [← HGO.out, HDR.out, validGo_no hz]
          have HV := Lib.hid hv
          clear hz hv
          go_wp2_with (go_at_call 39; refine HCK.out.mono ?_; rintro e w1 ⟨rfl, hb1⟩)
          go_ret
          exact ⟨ret_int HV.out.symm, HA.out.trans (hb1.mono HA.out.size)⟩
      · have hjl : j = l.length := by omega
        have hv : validE l = if compB c s = true then 0 else 1 := by rw [← HGO.out, hjl, List.drop_length]; rfl
        have HV := Lib.hid hv
        clear hv hjl
        by_cases hcb : compB c s = true
        · go_wp2_with (go_at_call 41; refine (complete_any _ HN.out).mono ?_; rintro e w' ⟨rfl, rfl⟩)
          go_ret
          exact ⟨ret_int (by rw [HV.out, if_pos hcb]), HB.out⟩
        · have hcb2 : compB c s = false := by simpa using hcb
          clear hcb
          go_wp2_with (go_at_call 41; refine (complete_any _ HN.out).mono ?_; rintro e w' ⟨rfl, rfl⟩)
          go_ret
          exact ⟨ret_int (by rw [HV.out, hcb2]; rfl), HB.out⟩

/-- an item that was checked without an error -/
def Sound (x : It) : Prop := 0 ≤ x.n ∧ 1 ≤ x.k ∧ x.k ≤ 8 ∧ (x.k = 7 → x.n ≤ 1) ∧ x.d.size ≤ 1024
theorem validGo_sound : ∀ (l : List It) (c : Nat) (s : List Lv), (∀ x ∈ l, 0 ≤ x.n) → validGo c s l = 0 → (∀ x ∈ l, Sound x) ∧ (0 < l.length → c + l.length ≤ 512)
  | [], _, _, _, _ => ⟨by simp, by simp⟩
  | x :: r, c, s, h0, h => by
    by_cases hz : checkE c s x.k x.n x.d = 0
    · rw [validGo_yes hz] at h
      obtain ⟨z1, z2, z3, z4, z5, _⟩ := check_zero hz
      obtain ⟨h1, h2⟩ := validGo_sound r _ _ (fun y hy => h0 y (List.mem_cons_of_mem _ hy)) h
      refine ⟨fun y hy => ?_, fun _ => ?_⟩
      · rcases List.mem_cons.1 hy with rfl | hy
        · exact ⟨h0 _ (by simp), z2, z3, z4, z5⟩
        · exact h1 y hy
      · simp only [List.length_cons]
        cases r with
        | nil => simp; omega
        | cons a b => have := h2 (by simp); simp only [List.length_cons] at this ⊢; omega
    · rw [validGo_no hz] at h; exact absurd h hz

def encAll (l : List It) : List Int := l.flatMap fun x => encItem x.k x.n x.d
theorem encAll_nil : encAll [] = [] := rfl
theorem encAll_take {l : List It} {j : Nat} (h : j < l.length) : encAll (l.take (j + 1)) = encAll (l.take j) ++ encItem l[j].k l[j].n l[j].d := by
  rw [List.take_succ_eq_append_getElem h, encAll, List.flatMap_append]; simp [encAll]
theorem encAll_len {l : List It} (h : ∀ x ∈ l, Sound x) : (encAll l).length ≤ l.length * 1034 := by
  induction l with
  | nil => simp [encAll]
  | cons x r ih =>
    have h1 := ih fun y hy => h y (List.mem_cons_of_mem _ hy)
    have h2 := encItem_len x.k x.n x.d
    have h3 := (h x (by simp)).2.2.2.2
    have e : encAll (x :: r) = encItem x.k x.n x.d ++ encAll r := rfl
    rw [e, List.length_append, List.length_cons]
    omega

/-- a new slice of these bytes -/
def NewBytes (w : World) (l : List Int) (v : Value) (w' : World) : Prop := w'.ownsRow w.heap.size 5 1 v l.length (bv l) ∧ Below w.heap.size w w'

theorem itemsAt_cell {w : World} {B b off cap : Nat} {l : List It} {v : Value} (_ : ItemsAt w B v l) (_ : v = .slice (some ⟨b, off, none⟩) l.length cap) : True := trivial

set_option maxRecDepth 100000 in
set_option maxHeartbeats 1000000 in
theorem encode_bad (l : List It) (v : Value) (w : World) (hI : ItemsAt w w.heap.size v l) (ht : Tabs w) (hz : validE l ≠ 0) :
    Calls Tryd.prog 16 #[v] w fun e w' => e = .returned (.tuple #[.slice none 0 0, .int .i64 (validE l)]) ∧ Below w.heap.size w w' := by
  have HV := Lib.hid (validate_any l v w hI ht)
  have hzb : (validE l != 0) = true := by simpa using hz
  clear hI ht hz
  go_enter Tryd.func16, Tryd.ntmps16
  go_wp2_with (go_at_call 18; refine HV.out.mono ?_; rintro e w1 ⟨rfl, hb1⟩)
  go_ret2
  exact ⟨rfl, hb1⟩

set_option maxRecDepth 100000 in
set_option maxHeartbeats 1000000 in
theorem encode_good (l : List It) (v : Value) (w : World) (hI : ItemsAt w w.heap.size v l) (ht : Tabs w) (hz : validE l = 0) :
    Calls Tryd.prog 16 #[v] w fun e w' => ∃ v', e = .returned (.tuple #[v', .int .i64 0]) ∧ NewBytes w (encAll l) v' w' := by
  have hzb : (validE l != 0) = false := by simpa using hz
  have hgo := validGo_sound l 0 [] (fun x hx => (hI.ok x hx).1) hz
  have HV := Lib.hid (validate_any l v w hI ht)
  have hlen0 : 0 < l.length := by
    cases l with
    | nil => exact absurd hz (by decide)
    | cons a b => simp
  have hlen : l.length ≤ 512 := by have := hgo.2 hlen0; omega
  have HS := Lib.hid hgo.1
  have HT := Lib.hid ht
  have HZ := Lib.hid hz
  have HI := Lib.hid hI
  obtain ⟨b, off, cap, rfl, hb, hcells⟩ : ∃ b off cap, v = .slice (some ⟨b, off, none⟩) l.length cap ∧ b < w.heap.size ∧ ∀ i (h : i < l.length), w.cell? ⟨b, off + i * 3, none⟩ = some (.int .i64 l[i].k) ∧ w.cell? ⟨b, off + i * 3 + 1, none⟩ = some (.int .u64 l[i].n) ∧ w.cell? ⟨b, off + i * 3 + 2, none⟩ = some (.string l[i].d) := by
    rcases hI.form with ⟨_, h⟩ | h
    · rw [h] at hlen0; cases hlen0
    · exact h
  have HC := Lib.hid hcells
  clear hcells hI ht hz hgo
  go_enter Tryd.func16, Tryd.ntmps16
  go_wp2_with (go_at_call 18; refine HV.out.mono ?_; rintro e w1 ⟨rfl, hb1⟩)
  have HB1 := Lib.hid hb1
  clear hb1
  go_loopw [5, 15] (fun v i wr => ∃ j : Nat, j ≤ l.length ∧ i = .int .i64 j ∧ wr.ownsRow w.heap.size 5 1 v (encAll (l.take j)).length (bv (encAll (l.take j))) ∧ Below w.heap.size w wr) (fun _ i _ => l.length - (intOf i).toNat)
  case atStart => exact ⟨0, by omega, rfl, World.ownsRow_nil _ _ _ _, HB1.out⟩
  case round =>
    obtain ⟨j, hj, rfl, ho, hbw⟩ := hrel
    have HO := Lib.hid ho
    have HB := Lib.hid hbw
    have hsz : w.heap.size ≤ wr.heap.size := hbw.size
    have hbr : b < wr.heap.size := by omega
    clear ho hbw
    by_cases hlt : j < l.length
    · obtain ⟨c0, c1, c2⟩ := HC.out j hlt
      have q0 := (HB.out.cell (p := ⟨b, off + j * 3, none⟩) hb).trans c0
      have q1 := (HB.out.cell (p := ⟨b, off + j * 3 + 1, none⟩) hb).trans c1
      have q2 := (HB.out.cell (p := ⟨b, off + j * 3 + 2, none⟩) hb).trans c2
      clear c0 c1 c2
      have hx := HS.out l[j] (List.getElem_mem hlt)
      have htk := encAll_take hlt
      have HTK := Lib.hid htk
      have hln : (encAll (l.take j)).length ≤ 900000 := by
        have h1 := encAll_len (l := l.take j) (fun y hy => HS.out y (List.mem_of_mem_take hy))
        have h2 : (l.take j).length ≤ 512 := by rw [List.length_take]; omega
        have h3 : (l.take j).length * 1034 ≤ 512 * 1034 := Nat.mul_le_mul_right _ h2
        omega
      clear htk
      generalize l[j] = x at q0 q1 q2 hx HTK
      obtain ⟨k, n, d⟩ := x
      simp only [Sound] at q0 q1 q2 hx
      have hA : Below w.heap.size w (wr.alloc (.cells #[.int .i64 k, .int .u64 n, .string d] 58)) := HB.out.alloc (by omega) _
      have C := appendItem_any w.heap.size k n d _ _ _ (wr.alloc (.cells #[.int .i64 k, .int .u64 n, .string d] 58)) (HT.out.later hA).tz (HO.out.alloc _) (by simp; omega) hln hx.1 hx.2.1 hx.2.2.1 hx.2.2.2.1 (by omega)
      have HCK := Lib.hid C
      have HA := Lib.hid hA
      clear C hA hx
      go_wp2_with (go_at_call 37; refine HCK.out.mono ?_; rintro e w2 ⟨v2, rfl, ho2, hb2, _⟩)
      go_roundw
      case rel => exact ⟨j + 1, by omega, by go_num, by rw [HTK.out, List.length_append, bv_app]; exact ho2, HA.out.trans hb2⟩
      case measure => simp [intOf]; omega
    · have hjl : j = l.length := by omega
      subst hjl
      go_wp2
      go_ret2
      exact ⟨_, rfl, by have h := HO.out; rwa [List.take_length] at h, HB.out⟩
end Go.Proofs.YtepinmeidjlmmaaDoor

namespace Go.Proofs.YtepinmeidjlmmaaDoor
open Go.RowKit

set_option maxRecDepth 100000 in
set_option maxHeartbeats 1000000 in
theorem take_no (p g o N cap at' n : Nat) (w : World) (h2 : w.cell? ⟨p, 2, none⟩ = some (.slice (some ⟨g, o, none⟩) N cap)) (h3 : w.cell? ⟨p, 3, none⟩ = some (.int .i64 at')) (hat : at' ≤ N) (hN : N ≤ 1000000000000) (hn : N < at' + n) :
    Calls Tryd.prog 66 #[.pointer (some ⟨p, 0, none⟩), .int .u64 n] w fun e w' => e = .returned (.tuple #[.slice none 0 0, .bool false]) ∧ ∃ m, w.drewN m = w' := by
  have k1 : ((N : Int) - (at' : Int)) < (n : Int) := by omega
  go_enter Tryd.func66, Tryd.ntmps66
  go_wp2_with fail
  go_quiet (fail)
  go_wp2
  go_ret2
  exact ⟨rfl, _, rfl⟩

set_option maxRecDepth 100000 in
set_option maxHeartbeats 1000000 in
theorem take_yes (p g o N cap at' n : Nat) (w : World) (h2 : w.cell? ⟨p, 2, none⟩ = some (.slice (some ⟨g, o, none⟩) N cap)) (h3 : w.cell? ⟨p, 3, none⟩ = some (.int .i64 at')) (hf : w.frozen? ⟨p, 3, none⟩ = false) (hcap : N ≤ cap) (hN : N ≤ 1000000000000) (hn : at' + n ≤ N) (hn1 : 1 ≤ n) :
    Calls Tryd.prog 66 #[.pointer (some ⟨p, 0, none⟩), .int .u64 n] w fun e w' => e = .returned (.tuple #[.slice (some ⟨g, o + at', none⟩) n (cap - at'), .bool true]) ∧ ∃ m, (w.drewN m).setCell ⟨p, 3, none⟩ (.int .i64 ((at' + n : Nat) : Int)) = w' := by
  have k1 : ¬ ((N : Int) - (at' : Int)) < (n : Int) := by omega
  have k2 : (at' : Int) + (n : Int) ≤ (cap : Int) := by omega
  have k3 : ¬ cap = at' := by omega
  go_enter Tryd.func66, Tryd.ntmps66
  go_wp2_with fail
  go_quiet (fail)
  go_wp2_with fail
  go_quiet (fail)
  go_wp2
  go_ret2
  refine ⟨?_, _, by rw [Int.natCast_add]⟩
  show Ending.returned (.tuple #[.slice (some ⟨g, o + at', none⟩) (at' + n - at') (cap - at'), .bool true]) = _
  rw [Nat.add_sub_cancel_left]

/-- what reading changes: the position -/
structure RF (p : Nat) (w w' : World) : Prop where
  os : w'.os = w.os
  tape : w'.tape = w.tape
  output : w'.output = w.output
  size : w.heap.size ≤ w'.heap.size
  block : ∀ k, k < w.heap.size → k ≠ p → w'.heap[k]? = w.heap[k]?
  cell : ∀ j, j ≠ 3 → w'.cell? ⟨p, j, none⟩ = w.cell? ⟨p, j, none⟩
  frz : ∀ j, w'.frozen? ⟨p, j, none⟩ = w.frozen? ⟨p, j, none⟩
theorem RF.refl (p : Nat) (w : World) : RF p w w := ⟨rfl, rfl, rfl, Nat.le_refl _, fun _ _ _ => rfl, fun _ _ => rfl, fun _ => rfl⟩
theorem RF.trans {p : Nat} {w1 w2 w3 : World} (h : RF p w1 w2) (k : RF p w2 w3) : RF p w1 w3 :=
  ⟨k.os.trans h.os, k.tape.trans h.tape, k.output.trans h.output, Nat.le_trans h.size k.size, fun i hi hp => (k.block i (Nat.lt_of_lt_of_le hi h.size) hp).trans (h.block i hi hp), fun j hj => (k.cell j hj).trans (h.cell j hj), fun j => (k.frz j).trans (h.frz j)⟩
theorem RF.pos (w : World) (p m : Nat) (u : Value) : RF p w ((w.drewN m).setCell ⟨p, 3, none⟩ u) :=
  ⟨rfl, rfl, rfl, by simp, fun k _ hk => heap_setCell_other (w.drewN m) _ k u hk, fun j hj => World.cell?_setCell_other (w.drewN m) _ _ _ (by simp <;> omega), fun j => World.frozen?_setCell (w.drewN m) _ _ _⟩
theorem RF.below {p : Nat} {w w' : World} (h : RF p w w') (hp : p ≤ w.heap.size) : Below p w w' := ⟨h.os, h.tape, h.output, h.size, fun k hk => h.block k (by omega) (by omega)⟩
theorem RF.cellAt {p : Nat} {w w' : World} (h : RF p w w') {b j : Nat} (hb : b < w.heap.size) (hp : b ≠ p) : w'.cell? ⟨b, j, none⟩ = w.cell? ⟨b, j, none⟩ := World.cell?_of_block (h.block b hb hp)
theorem RF.frozenAt {p : Nat} {w w' : World} (h : RF p w w') {b j : Nat} (hb : b < w.heap.size) (hp : b ≠ p) : w'.frozen? ⟨b, j, none⟩ = w.frozen? ⟨b, j, none⟩ := World.frozen?_of_block (h.block b hb hp)

/-- a reader at its input: not its nesting -/
structure RdAt (w : World) (p g o N cap at' : Nat) : Prop where
  inp : w.cell? ⟨p, 2, none⟩ = some (.slice (some ⟨g, o, none⟩) N cap)
  pos : w.cell? ⟨p, 3, none⟩ = some (.int .i64 at')
  fr : w.frozen? ⟨p, 3, none⟩ = false
  hcap : N ≤ cap
  hN : N ≤ 1000000000000
  hat : at' ≤ N

theorem or0 (x : Int) (h0 : 0 ≤ x) (h1 : x < 24) : bits BinOp.or IntKind.u64 0 x = x := by
  have key : ∀ a : Fin 24, bits BinOp.or IntKind.u64 0 ((a.val : Nat) : Int) = ((a.val : Nat) : Int) := by decide +kernel
  have := key ⟨x.toNat, by omega⟩
  simpa [Int.toNat_of_nonneg h0] using this

set_option maxRecDepth 100000 in
set_option maxHeartbeats 1000000 in
/-- an argument of one byte that is too small for this form -/
theorem wide1_bad (p g o N cap at' : Nat) (x : Int) (w : World) (h : RdAt w p g o N cap at') (hn : at' + 1 ≤ N) (hgp : g ≠ p) (hx : w.cell? ⟨g, o + at', none⟩ = some (.int .u8 x)) (hx0 : 0 ≤ x) (hx1 : x < 24) :
    Calls Tryd.prog 81 #[.pointer (some ⟨p, 0, none⟩), .int .i64 1] w fun e w' => e = .returned (.tuple #[.int .u64 0, .int .i64 2]) ∧ RF p w w' := by
  have HT := Lib.hid (take_yes p g o N cap at' 1 w h.inp h.pos h.fr h.hcap h.hN hn (by omega))
  have hgp2 : ¬ p = g := fun e => hgp e.symm
  clear h hn
  go_enter Tryd.func81, Tryd.ntmps81
  go_wp2_with (go_at_call 66; refine HT.out.mono ?_; rintro e w' ⟨rfl, m, rfl⟩)
  have hor : bits BinOp.or IntKind.u64 0 x = x := or0 x hx0 hx1
  go_loop [4, 21] (fun n i => ∃ k : Nat, k ≤ 1 ∧ i = .int .i64 k ∧ n = .int .u64 (if k = 0 then 0 else x)) (fun _ i => 1 - (intOf i).toNat)
  case atStart => exact ⟨0, by omega, rfl, rfl⟩
  case round =>
    obtain ⟨k, hk, rfl, rfl⟩ := hrel
    have hk2 : k = 0 ∨ k = 1 := by omega
    rcases hk2 with rfl | rfl
    · go_wp2
      go_round
      case rel => exact ⟨1, by omega, rfl, rfl⟩
      case measure => simp [intOf]
    · have ha := argSz_any x
      have hs0 := argSz0 hx1
      rw [hs0] at ha
      have HA := Lib.hid ha
      clear ha hs0
      go_wp2_with (go_at_call 75; refine (HA.out _).mono ?_; rintro e w' ⟨rfl, rfl⟩)
      go_ret2
      exact ⟨rfl, RF.pos _ _ _ _⟩

set_option maxRecDepth 100000 in
set_option maxHeartbeats 1000000 in
/-- the head 24 with an argument that would fit into it -/
theorem head24_bad (p g o N cap at' : Nat) (x : Int) (w : World) (h : RdAt w p g o N cap at') (hn : at' + 2 ≤ N) (hgp : g ≠ p) (hb : w.cell? ⟨g, o + at', none⟩ = some (.int .u8 24)) (hx : w.cell? ⟨g, o + (at' + 1), none⟩ = some (.int .u8 x)) (hx0 : 0 ≤ x) (hx1 : x < 24) :
    Calls Tryd.prog 64 #[.pointer (some ⟨p, 0, none⟩)] w fun e w' => e = .returned (.tuple #[.int .i64 0, .int .u64 0, .int .i64 2]) ∧ RF p w w' := by
  have HT := Lib.hid (take_yes p g o N cap at' 1 w h.inp h.pos h.fr h.hcap h.hN (by omega) (by omega))
  have HW := Lib.hid (fun (W : World) (hW : RdAt W p g o N cap (at' + 1)) (hx : W.cell? ⟨g, o + (at' + 1), none⟩ = some (.int .u8 x)) => wide1_bad p g o N cap (at' + 1) x W hW (by omega) hgp hx hx0 hx1)
  have H := Lib.hid h
  have hgp2 : ¬ p = g := fun e => hgp e.symm
  have hR : ∀ m, RdAt ((w.drewN m).setCell ⟨p, 3, none⟩ (.int .i64 ((at' + 1 : Nat) : Int))) p g o N cap (at' + 1) := fun m =>
    ⟨by rw [World.cell?_setCell_other _ _ _ _ (by simp)]; exact h.inp, World.cell?_setCell_same _ _ _ h.pos, by rw [World.frozen?_setCell]; exact h.fr, h.hcap, h.hN, by omega⟩
  have HR := Lib.hid hR
  have HX := Lib.hid (fun m => (World.cell?_setCell_other (w.drewN m) ⟨p, 3, none⟩ ⟨g, o + (at' + 1), none⟩ (.int .i64 ((at' + 1 : Nat) : Int)) (by simp [])).trans hx)
  have ha : bits BinOp.and IntKind.u8 24 31 = 24 := by decide +kernel
  clear h hR hx hn
  go_enter Tryd.func64, Tryd.ntmps64
  go_wp2_with (first | (go_at_call 66; refine HT.out.mono ?_; rintro e w' ⟨rfl, m, rfl⟩) | (go_at_call 81; refine (HW.out _ (by exact HR.out _) (by exact HX.out _)).mono ?_; rintro e w2 ⟨rfl, hb2⟩))
  go_ret3
  exact ⟨rfl, (RF.pos _ _ _ _).trans hb2⟩

set_option maxRecDepth 100000 in
set_option maxHeartbeats 1000000 in
theorem item24_bad (p g o N cap at' : Nat) (x : Int) (w : World) (h : RdAt w p g o N cap at') (hp : p < w.heap.size) (hn : at' + 2 ≤ N) (hgp : g < p) (hb : w.cell? ⟨g, o + at', none⟩ = some (.int .u8 24)) (hx : w.cell? ⟨g, o + (at' + 1), none⟩ = some (.int .u8 x)) (hx0 : 0 ≤ x) (hx1 : x < 24) :
    Calls Tryd.prog 44 #[.pointer (some ⟨p, 0, none⟩)] w fun e w' => e = .returned (.tuple #[.agg #[.int .i64 0, .int .u64 0, .string ⟨#[]⟩], .int .i64 2]) ∧ Below p w w' := by
  have hB0 : Below w.heap.size w (w.alloc (.cells #[.int .i64 0, .int .u64 0, .string ⟨#[]⟩] 58)) := (Below.refl _ w).alloc (Nat.le_refl _) _
  have hR : RdAt (w.alloc (.cells #[.int .i64 0, .int .u64 0, .string ⟨#[]⟩] 58)) p g o N cap at' :=
    ⟨(hB0.cell (p := ⟨p, 2, none⟩) hp).trans h.inp, (hB0.cell (p := ⟨p, 3, none⟩) hp).trans h.pos, (hB0.frozen (p := ⟨p, 3, none⟩) hp).trans h.fr, h.hcap, h.hN, h.hat⟩
  have HH := Lib.hid (head24_bad p g o N cap at' x _ hR hn (by omega) ((hB0.cell (p := ⟨g, o + at', none⟩) (by show g < _; omega)).trans hb) ((hB0.cell (p := ⟨g, o + (at' + 1), none⟩) (by show g < _; omega)).trans hx) hx0 hx1)
  have HB := Lib.hid hB0
  clear hR hB0 h hb hx
  go_enter Tryd.func44, Tryd.ntmps44
  go_wp2_with (go_at_call 64; refine HH.out.mono ?_; rintro e w2 ⟨rfl, hb2⟩; have y0 : w2.cell? ⟨w.heap.size, 0, none⟩ = some (.int .i64 0) := (hb2.cellAt (by simp) (by omega)).trans (by simp); have y1 : w2.cell? ⟨w.heap.size, 1, none⟩ = some (.int .u64 0) := (hb2.cellAt (by simp) (by omega)).trans (by simp); have y2 : w2.cell? ⟨w.heap.size, 2, none⟩ = some (.string ⟨#[]⟩) := (hb2.cellAt (by simp) (by omega)).trans (by simp); have f0 : w2.frozen? ⟨w.heap.size, 0, none⟩ = false := (hb2.frozenAt (by simp) (by omega)).trans (by simp); have f1 : w2.frozen? ⟨w.heap.size, 1, none⟩ = false := (hb2.frozenAt (by simp) (by omega)).trans (by simp); have f2 : w2.frozen? ⟨w.heap.size, 2, none⟩ = false := (hb2.frozenAt (by simp) (by omega)).trans (by simp))
  refine bodyPost_ret (v := .tuple #[.agg #[.int .i64 0, .int .u64 0, .string ⟨#[]⟩], .int .i64 2]) (by simp [results, Tryd.results44, go_sem, y0, y1, y2]) rfl ⟨rfl, ?_⟩
  exact ((((HB.out.mono (by omega)).trans (hb2.below (by simp; omega))).setCell (p := ⟨w.heap.size, 0, none⟩) (by show p ≤ w.heap.size; omega) _).setCell (p := ⟨w.heap.size, 1, none⟩) (by show p ≤ w.heap.size; omega) _).setCell (p := ⟨w.heap.size, 2, none⟩) (by show p ≤ w.heap.size; omega) _

set_option maxRecDepth 100000 in
set_option maxHeartbeats 1000000 in
/-- 0x18 followed by a byte below 24 is refused -/
theorem decode24_bad (g o N cap : Nat) (x : Int) (w : World) (hg : g < w.heap.size) (hcap : N ≤ cap) (hN : N ≤ 1000000000000) (hn : 2 ≤ N) (hb : w.cell? ⟨g, o, none⟩ = some (.int .u8 24)) (hx : w.cell? ⟨g, o + 1, none⟩ = some (.int .u8 x)) (hx0 : 0 ≤ x) (hx1 : x < 24) :
    Calls Tryd.prog 22 #[.slice (some ⟨g, o, none⟩) N cap] w fun e w' => e = .returned (.tuple #[.slice none 0 0, .int .i64 0, .int .i64 2]) ∧ Below w.heap.size w w' := by
  have hB0 : Below w.heap.size w (w.alloc (.cells #[.int .i64 0, .slice none 0 0, .slice (some ⟨g, o, none⟩) N cap, .int .i64 0] 77)) := (Below.refl _ w).alloc (Nat.le_refl _) _
  have hN0 : nestAt (w.alloc (.cells #[.int .i64 0, .slice none 0 0, .slice (some ⟨g, o, none⟩) N cap, .int .i64 0] 77)) (w.heap.size + 1) w.heap.size 0 [] (.slice none 0 0) :=
    ⟨by simp, by simp, by simp, by simp, World.ownsRow_nil _ _ _ _, by omega, by simp, by simp, by omega, by simp⟩
  have hR : RdAt (w.alloc (.cells #[.int .i64 0, .slice none 0 0, .slice (some ⟨g, o, none⟩) N cap, .int .i64 0] 77)) w.heap.size g o N cap 0 :=
    ⟨by simp, by simp, by simp, hcap, hN, by omega⟩
  have HI := Lib.hid (item24_bad w.heap.size g o N cap 0 x _ hR (by simp) hn hg ((hB0.cell (p := ⟨g, o, none⟩) hg).trans hb) ((hB0.cell (p := ⟨g, o + (0 + 1), none⟩) hg).trans (by rw [Nat.zero_add]; exact hx)) hx0 hx1)
  have HN0 := Lib.hid hN0
  have HB0 := Lib.hid hB0
  have hcb : compB 0 [] = false := rfl
  clear hR hN0 hB0 hb hx
  go_enter Tryd.func22, Tryd.ntmps22
  go_wp2_with fail
  refine wp_loop_rounds 1 ?_
  rw [rounds_succ]
  go_wp2_with (first | (go_at_call 41; refine (complete_any _ HN0.out).mono ?_; rintro e w' ⟨rfl, rfl⟩) | (go_at_call 44; refine HI.out.mono ?_; rintro e w2 ⟨rfl, hb2⟩))
  go_ret3
  exact ⟨rfl, (HB0.out.trans hb2).alloc (by have h1 := HB0.out.size; have h2 := hb2.size; omega) _⟩
end Go.Proofs.YtepinmeidjlmmaaDoor

namespace Go.Proofs.YtepinmeidjlmmaaDoor
open Go.RowKit

theorem itemsAt_one {w : World} {B b : Nat} {k n : Int} {d : ByteArray} (hb : b < B) (h : w.heap[b]? = some (.cells (itemCs k n d) 58 (0, 0))) (h0 : 0 ≤ n) (hd : d.size ≤ maxLen) : ItemsAt w B (.slice (some ⟨b, 0, none⟩) 1 1) [⟨k, n, d⟩] :=
  ⟨.inr ⟨b, 0, 1, rfl, hb, fun i hi => by
    obtain rfl : i = 0 := by simp at hi; omega
    exact ⟨cell_of_block h rfl, cell_of_block h rfl, cell_of_block h rfl⟩⟩, by intro x hx; simp at hx; subst hx; exact ⟨h0, hd⟩, by simp⟩

/-- a constructor's result: one new block -/
def OneNew (w : World) (k n : Int) (d : ByteArray) (e : Ending) (w' : World) : Prop := e = .returned (.slice (some ⟨w.heap.size, 0, none⟩) 1 1) ∧ w.alloc (.cells (itemCs k n d) 58) = w'

set_option maxHeartbeats 400000 in
theorem uint_any (n : Int) (w : World) : Calls Tryd.prog 34 #[.int .u64 n] w (OneNew w 1 n ⟨#[]⟩) := by
  go_enter Tryd.func34, Tryd.ntmps34
  go_wp2
  go_ret
  exact ⟨rfl, rfl⟩
set_option maxHeartbeats 400000 in
theorem text_any (d : ByteArray) (w : World) : Calls Tryd.prog 36 #[.string d] w (OneNew w 4 0 d) := by
  go_enter Tryd.func36, Tryd.ntmps36
  go_wp2
  go_ret
  exact ⟨rfl, rfl⟩

theorem info58 : (Tryd.prog.info? 58).map (fun i => (i.zero, i.size, i.bytes)) = some (some (.agg #[.int .i64 0, .int .u64 0, .string ⟨#[]⟩]), 3, 32) := by kernel_rfl

set_option maxRecDepth 100000 in
set_option maxHeartbeats 1000000 in
theorem grow_nil (n : Nat) (w : World) (hn : 1 ≤ n) (hn2 : n ≤ 1000000) :
    Calls Tryd.prog 86 #[.slice none 0 0, .int .i64 n] w fun e w' => ∃ cap, e = .returned (.slice (some ⟨w.heap.size, 0, none⟩) 0 cap) ∧ w'.ownsRow w.heap.size 58 3 (.slice (some ⟨w.heap.size, 0, none⟩) 0 cap) 0 [] ∧ Below w.heap.size w w' := by
  obtain ⟨i0, hi, hz0, hz1, hz2⟩ := info_parts info58
  have hcap := grownCap_ge w n 0 58
  have hmax := grownCap_le_maxLen w n 0 58 (by unfold maxLen; omega)
  have hold : (Builtin.firstCells i0.size 0 (.slice none 0 0)).run Tryd.prog w.drew = .ok (#[] : Array Value) w.drew := Go.run_firstCells_none w.drew i0.size 0 0 0
  have hrz : ∀ ty, (Builtin.append_ #[22, 3] ty #[.slice none 0 0, .int .i64 n]).run Tryd.prog w = .ok (.slice (some ⟨w.heap.size, 0, none⟩) n (grownCap w n 0 58)) (w.drew.alloc (.cells (#[] ++ Builtin.zeroCells (Value.cells (.agg #[.int .i64 0, .int .u64 0, .string ⟨#[]⟩])) n ++ Builtin.zeroCells (Value.cells (.agg #[.int .i64 0, .int .u64 0, .string ⟨#[]⟩])) (grownCap w n 0 58 - n)) 58)) := fun ty => by
    have h := Lib.run_append_grow_zeros w 22 3 ty 58 i0 _ .i64 .i64 Tryd.underlying22 Tryd.underlying3 hi hz0 none 0 0 [] hold n (by omega) (by omega) (by omega) (by omega) (by rw [hz2]; omega) (by rw [Nat.zero_add, hz2]; exact growslice_fits (by omega) (by omega))
    simpa using h
  generalize hC : (#[] ++ Builtin.zeroCells (Value.cells (.agg #[.int .i64 0, .int .u64 0, .string ⟨#[]⟩])) n ++ Builtin.zeroCells (Value.cells (.agg #[.int .i64 0, .int .u64 0, .string ⟨#[]⟩])) (grownCap w n 0 58 - n) : Array Value) = C at hrz
  have hCs : C.size = grownCap w n 0 58 * 3 := by
    rw [← hC]; simp [size_zeroCells, Value.cells]; omega
  generalize grownCap w n 0 58 = G at hrz hcap hmax hCs
  have HR := Lib.hid hrz
  have HCS := Lib.hid hCs
  have hn63 : (n : Int) ≤ 1000000 := by omega
  unfold maxLen at hmax
  clear hrz hC hCs hold hi hz0 hz1 hz2
  go_enter Tryd.func86, Tryd.ntmps86
  go_wp2_with (at_builtin; refine Lib.wpList_append_run _ rfl _ _ _ _ rfl _ _ rfl rfl _ _ (HR.out _) ?_)
  go_ret
  exact ⟨G, rfl, World.ownsRow_made (base := w.heap.size) w.drew C G (by simp) (by unfold maxLen; omega) HCS.out, (Below.refl _ w).drew.alloc (by simp) _⟩

set_option maxRecDepth 100000 in
set_option maxHeartbeats 400000 in
theorem len1 (w : World) : Calls Tryd.prog 84 #[.int .u64 1] w fun e w' => (∃ l, e = .returned (.int .i64 l)) ∧ w = w' := by
  go_enter Tryd.func84, Tryd.ntmps84
  go_wp2
  go_ret
  exact ⟨⟨_, rfl⟩, rfl⟩

set_option maxRecDepth 100000 in
set_option maxHeartbeats 400000 in
theorem insertion1 (g cap : Nat) (f : Value) (w : World) : Calls Tryd.prog 92 #[.slice (some ⟨g, 0, none⟩) 1 cap, .int .i64 0, .int .i64 1, f] w fun e w' => e = .returned (.tuple #[]) ∧ w = w' := by
  go_enter Tryd.func92, Tryd.ntmps92
  go_wp2_with fail
  refine wp_loop_rounds 1 ?_
  rw [rounds_succ]
  go_wp2_with fail
  go_end0
  exact ⟨rfl, rfl⟩

set_option maxRecDepth 100000 in
set_option maxHeartbeats 400000 in
theorem pdq1 (g cap : Nat) (f : Value) (l : Int) (w : World) : Calls Tryd.prog 83 #[.slice (some ⟨g, 0, none⟩) 1 cap, .int .i64 0, .int .i64 1, .int .i64 l, f] w fun e w' => e = .returned (.tuple #[]) ∧ w = w' := by
  go_enter Tryd.func83, Tryd.ntmps83
  go_wp2_with fail
  refine wp_loop_rounds 1 ?_
  rw [rounds_succ]
  go_wp2_with (go_at_call 92; refine (insertion1 _ _ _ _).mono ?_; rintro e w' ⟨rfl, rfl⟩)
  refine bodyPost_ret (results_none rfl _ _ _) rfl ?_
  exact ⟨rfl, rfl⟩

set_option maxRecDepth 100000 in
set_option maxHeartbeats 400000 in
theorem sort1 (g cap : Nat) (f : Value) (w : World) : Calls Tryd.prog 71 #[.slice (some ⟨g, 0, none⟩) 1 cap, f] w fun e w' => e = .returned (.tuple #[]) ∧ w = w' := by
  go_enter Tryd.func71, Tryd.ntmps71
  go_wp2_with (first | (go_at_call 84; refine (len1 _).mono ?_; rintro e w' ⟨⟨l, rfl⟩, rfl⟩) | (go_at_call 83; refine (pdq1 _ _ _ _ _).mono ?_; rintro e w' ⟨rfl, rfl⟩))
  go_end0
  exact ⟨rfl, rfl⟩
end Go.Proofs.YtepinmeidjlmmaaDoor

namespace Go.Proofs.YtepinmeidjlmmaaDoor
open Go.RowKit

def itCells : List It → List Value
  | [] => []
  | x :: r => .int .i64 x.k :: .int .u64 x.n :: .string x.d :: itCells r
theorem itCells_len : ∀ l : List It, (itCells l).length = l.length * 3
  | [] => rfl
  | x :: r => by simp [itCells, itCells_len r]; omega
theorem itCells_app : ∀ a b : List It, itCells (a ++ b) = itCells a ++ itCells b
  | [], b => rfl
  | x :: r, b => by simp [itCells, itCells_app r b]
theorem itCells_at : ∀ (l : List It) (i : Nat) (h : i < l.length), (itCells l)[i * 3]? = some (.int .i64 l[i].k) ∧ (itCells l)[i * 3 + 1]? = some (.int .u64 l[i].n) ∧ (itCells l)[i * 3 + 2]? = some (.string l[i].d)
  | x :: r, 0, _ => ⟨rfl, rfl, rfl⟩
  | x :: r, i + 1, h => by
    have ih := itCells_at r i (by simpa using h)
    have e0 : (i + 1) * 3 = i * 3 + 1 + 1 + 1 := by omega
    have e1 : (i + 1) * 3 + 1 = i * 3 + 1 + 1 + 1 + 1 := by omega
    have e2 : (i + 1) * 3 + 2 = i * 3 + 2 + 1 + 1 + 1 := by omega
    refine ⟨?_, ?_, ?_⟩
    · rw [e0, itCells, List.getElem?_cons_succ, List.getElem?_cons_succ, List.getElem?_cons_succ]; exact ih.1
    · rw [e1, itCells, List.getElem?_cons_succ, List.getElem?_cons_succ, List.getElem?_cons_succ]; exact ih.2.1
    · rw [e2, itCells, List.getElem?_cons_succ, List.getElem?_cons_succ, List.getElem?_cons_succ]; exact ih.2.2
theorem itCells_one : ∀ (l : List It), ∀ u ∈ itCells l, u.oneCell' = true
  | [], u, h => by cases h
  | x :: r, u, h => by
    simp only [itCells, List.mem_cons] at h
    rcases h with rfl | rfl | rfl | h
    · rfl
    · rfl
    · rfl
    · exact itCells_one r u h
/-- the cells of a slice of items, one after the other -/
theorem itCells_src {w : World} {b off : Nat} : ∀ (l : List It) (o : Nat), (∀ i (h : i < l.length), w.cell? ⟨b, off + (o + i * 3), none⟩ = some (.int .i64 l[i].k) ∧ w.cell? ⟨b, off + (o + i * 3 + 1), none⟩ = some (.int .u64 l[i].n) ∧ w.cell? ⟨b, off + (o + i * 3 + 2), none⟩ = some (.string l[i].d)) →
    ∀ j u, (itCells l)[j]? = some u → w.cell? ⟨b, off + (o + j), none⟩ = some u
  | [], _, _, j, u, h => by simp [itCells] at h
  | x :: r, o, hc, j, u, h => by
    have h0 := hc 0 (by simp)
    match j, h with
    | 0, h => simp only [itCells, List.getElem?_cons_zero, Option.some.injEq] at h; subst h; simpa using h0.1
    | 1, h => simp only [itCells, List.getElem?_cons_succ, List.getElem?_cons_zero, Option.some.injEq] at h; subst h; simpa using h0.2.1
    | 2, h => simp only [itCells, List.getElem?_cons_succ, List.getElem?_cons_zero, Option.some.injEq] at h; subst h; simpa using h0.2.2
    | j + 3, h =>
      simp only [itCells, List.getElem?_cons_succ] at h
      have ih := itCells_src r (o + 3) (fun i hi => by
        have := hc (i + 1) (by simp; omega)
        simp only [List.getElem_cons_succ] at this
        have e : o + (i + 1) * 3 = o + 3 + i * 3 := by omega
        rw [e] at this
        exact this) j u h
      have e : o + (j + 3) = o + 3 + j := by omega
      rw [e]; exact ih

theorem itemsAt_src {w : World} {B b off cap : Nat} {l : List It} (h : ItemsAt w B (.slice (some ⟨b, off, none⟩) l.length cap) l) (_ : l ≠ []) : b < B ∧ ∀ j u, (itCells l)[j]? = some u → w.cell? ((⟨b, off, none⟩ : Addr).add j) = some u := by
  rcases h.form with ⟨h0, _⟩ | ⟨b2, off2, cap2, hv, hlt, hc⟩
  · cases h0
  · cases hv
    refine ⟨hlt, fun j u hj => ?_⟩
    have e : (⟨b, off, none⟩ : Addr).add j = ⟨b, off + j, none⟩ := by unfold Addr.add; split <;> simp_all
    rw [e]
    have := itCells_src (w := w) (b := b) (off := off) l 0 (fun i hi => by simpa [Nat.add_assoc] using hc i hi) j u hj
    simpa using this

theorem itemsAt_own {w : World} {base g n cap : Nat} {l : List It} (h : w.ownsRow base 58 3 (.slice (some ⟨g, 0, none⟩) n cap) n (itCells l)) (hok : ∀ x ∈ l, 0 ≤ x.n ∧ x.d.size ≤ maxLen) (hlen : l.length ≤ 1000000000000000) : ItemsAt w w.heap.size (.slice (some ⟨g, 0, none⟩) n cap) l := by
  have hn : n = l.length := by have h1 := h.1; rw [itCells_len] at h1; omega
  subst hn
  have hg := (h.lt g rfl).2
  refine ⟨.inr ⟨g, 0, cap, rfl, hg, fun i hi => ?_⟩, hok, hlen⟩
  have hc := itCells_at l i hi
  simp only [Nat.zero_add]
  exact ⟨by rw [h.cellAt _ (by omega)]; exact hc.1, by rw [h.cellAt _ (by omega)]; exact hc.2.1, by rw [h.cellAt _ (by omega)]; exact hc.2.2⟩

/-- append(a, s...) of items, a the call's own -/
theorem app_items {ops : Array Oper} {rest : List Oper} {o : Oper} {a : Act} {Q : Exit → Act → World → Prop} {w : World} (hgd : o.guard = none) (s x : Operand)
    (ho : o.op = .call { callee := .builtin .append, args := #[s, x], argTypes := #[22, 22] })
    (base : Nat) (v : Value) (n : Nat) (xs : List It) (l : List It) (B b off cap : Nat) (hown : w.ownsRow base 58 3 v n (itCells xs)) (hs : a.eval s = v)
    (hI : ItemsAt w B (.slice (some ⟨b, off, none⟩) l.length cap) l) (hx : a.eval x = .slice (some ⟨b, off, none⟩) l.length cap) (hne : l ≠ []) (hn : n ≤ 1000000) (hl : l.length ≤ 1000000) (hb : base ≤ w.heap.size)
    (h : ∀ v' w', w'.ownsRow base 58 3 v' (n + l.length) (itCells (xs ++ l)) → Below base w w' → wpList Tryd.prog ops Q rest (a.put o.dst v') w') :
    wpList Tryd.prog ops Q (o :: rest) a w := by
  obtain ⟨i0, hi, hz0, hz1, hz2⟩ := info_parts info58
  refine wpList_append_own _ hgd s x 22 ho base 58 i0 _ 3 32 Tryd.underlying22 hi hz0 hz1 hz2 rfl (by decide) v n _ hs hown ⟨b, off, none⟩ l.length cap (itCells l) hx (itCells_len l) (itemsAt_src hI hne).2 (itCells_one l) (by unfold maxLen; omega) (by omega) hb ?_
  intro v' w' h1 h2 _
  rw [← itCells_app] at h1
  exact h v' w' h1 (below_of_grown hown hb h2)

/-- a slice of slices of items -/
structure ValsAt (w : World) (B cb : Nat) (ls : List (List It)) : Prop where
  lt : cb < B
  cell : ∀ i (h : i < ls.length), ∃ b off cap, w.cell? ⟨cb, i, none⟩ = some (.slice (some ⟨b, off, none⟩) ls[i].length cap) ∧ ItemsAt w B (.slice (some ⟨b, off, none⟩) ls[i].length cap) ls[i]
  ne : ∀ l ∈ ls, l ≠ []
theorem ValsAt.below {w w' : World} {B cb : Nat} {ls : List (List It)} (h : ValsAt w B cb ls) (hb : Below B w w') : ValsAt w' B cb ls :=
  ⟨h.lt, fun i hi => by
    obtain ⟨b, off, cap, h1, h2⟩ := h.cell i hi
    exact ⟨b, off, cap, (hb.cell (p := ⟨cb, i, none⟩) h.lt).trans h1, h2.below hb⟩, h.ne⟩
theorem ValsAt.mono {w : World} {B B' cb : Nat} {ls : List (List It)} (h : ValsAt w B cb ls) (hB : B ≤ B') : ValsAt w B' cb ls :=
  ⟨Nat.lt_of_lt_of_le h.lt hB, fun i hi => by
    obtain ⟨b, off, cap, h1, h2⟩ := h.cell i hi
    refine ⟨b, off, cap, h1, ⟨?_, h2.ok, h2.len⟩⟩
    rcases h2.form with h0 | ⟨b2, off2, cap2, hv, hlt, hc⟩
    · exact .inl h0
    · exact .inr ⟨b2, off2, cap2, hv, Nat.lt_of_lt_of_le hlt hB, hc⟩, h.ne⟩
def total (ls : List (List It)) : Nat := ls.flatten.length
theorem total_take {ls : List (List It)} {j : Nat} (h : j < ls.length) : total (ls.take (j + 1)) = total (ls.take j) + ls[j].length := by
  rw [total, List.take_succ_eq_append_getElem h, List.flatten_append]; simp [total]
theorem total_le (ls : List (List It)) (j : Nat) : total (ls.take j) ≤ total ls := by
  have e : ls.flatten = (ls.take j).flatten ++ (ls.drop j).flatten := by rw [← List.flatten_append, List.take_append_drop]
  unfold total
  rw [e, List.length_append]
  omega
theorem flat_take {ls : List (List It)} {j : Nat} (h : j < ls.length) : (ls.take (j + 1)).flatten = (ls.take j).flatten ++ ls[j] := by
  rw [List.take_succ_eq_append_getElem h, List.flatten_append]; simp

set_option maxRecDepth 100000 in
set_option maxHeartbeats 1000000 in
theorem concat_any (cb cap : Nat) (ls : List (List It)) (w : World) (hV : ValsAt w w.heap.size cb ls) (h1 : 1 ≤ total ls) (h2 : total ls ≤ 1000000) (hn : ls.length ≤ 1000000) :
    Calls Tryd.prog 74 #[.slice (some ⟨cb, 0, none⟩) ls.length cap] w fun e w' => ∃ v, e = .returned v ∧ w'.ownsRow w.heap.size 58 3 v (total ls) (itCells ls.flatten) ∧ Below w.heap.size w w' := by
  have HV := Lib.hid hV
  have HG := Lib.hid (grow_nil (total ls) w h1 h2)
  clear hV
  go_enter Tryd.func74, Tryd.ntmps74
  go_wp2_with fail
  go_loop [3, 11] (fun s i => ∃ j : Nat, j ≤ ls.length ∧ i = .int .i64 j ∧ s = .int .i64 (total (ls.take j))) (fun _ i => ls.length - (intOf i).toNat)
  case atStart => exact ⟨0, by omega, rfl, rfl⟩
  case round =>
    obtain ⟨j, hj, rfl, rfl⟩ := hrel
    have htl := total_le ls j
    by_cases hlt : j < ls.length
    · obtain ⟨b, off, c2, hc, hI⟩ := HV.out.cell j hlt
      have htk := total_take hlt
      have htl2 := total_le ls (j + 1)
      have hlj : ls[j].length ≤ 1000000 := by omega
      have HTK := Lib.hid htk
      have HI := Lib.hid hI
      clear htk hI
      go_wp2
      go_round
      case rel => exact ⟨j + 1, by omega, by go_num, by rw [HTK.out]; go_num⟩
      case measure => simp [intOf]; omega
    · have hjl : j = ls.length := by omega
      have ht : total (ls.take j) = total ls := by rw [hjl, List.take_length]
      rw [ht]
      clear ht hjl htl
      go_wp2_with (go_at_call 86; refine HG.out.mono ?_; rintro e w1 ⟨c1, rfl, ho1, hb1⟩)
      have HB1 := Lib.hid hb1
      have HO1 := Lib.hid ho1
      clear ho1 hb1
      go_loopw [6, 27] (fun v i wr => ∃ j : Nat, j ≤ ls.length ∧ i = .int .i64 j ∧ wr.ownsRow w.heap.size 58 3 v (total (ls.take j)) (itCells (ls.take j).flatten) ∧ Below w.heap.size w wr) (fun _ i _ => ls.length - (intOf i).toNat)
      case atStart => exact ⟨0, by omega, rfl, by simpa [total, itCells] using HO1.out, HB1.out⟩
      case round =>
        obtain ⟨k, hk, rfl, hok, hbk⟩ := hrel
        have HO := Lib.hid hok
        have HB := Lib.hid hbk
        have hsz := hbk.size
        clear hok hbk
        by_cases hlt : k < ls.length
        · obtain ⟨b, off, c2, hc, hI⟩ := HV.out.cell k hlt
          have q := (HB.out.cell (p := ⟨cb, k, none⟩) HV.out.lt).trans hc
          have htk := total_take hlt
          have htl1 := total_le ls k
          have htl2 := total_le ls (k + 1)
          have hlj : ls[k].length ≤ 1000000 := by omega
          have hne := HV.out.ne ls[k] (List.getElem_mem hlt)
          have hft := flat_take hlt
          have hI2 := hI.below HB.out
          have HTK := Lib.hid htk
          have HFT := Lib.hid hft
          have HI := Lib.hid hI2
          have HNE := Lib.hid hne
          clear htk hft hI hI2 hne hc
          go_wp2_with (at_builtin; refine app_items rfl _ _ rfl w.heap.size _ _ _ ls[k] _ _ _ _ HO.out rfl HI.out rfl HNE.out (by omega) hlj hsz ?_; intro v2 w2 ho2 hb2)
          go_roundw
          case rel => exact ⟨k + 1, by omega, by go_num, by rw [HTK.out, HFT.out]; exact ho2, HB.out.trans hb2⟩
          case measure => simp [intOf]; omega
        · have hkl : k = ls.length := by omega
          go_wp2
          go_ret
          exact ⟨_, rfl, by have h := HO.out; rwa [hkl, List.take_length] at h, HB.out⟩
end Go.Proofs.YtepinmeidjlmmaaDoor

namespace Go.Proofs.YtepinmeidjlmmaaDoor
open Go.RowKit

def valAllE : List (List It) → Int
  | [] => 0
  | l :: r => if validE l = 0 then valAllE r else validE l
theorem valAll_yes {l : List It} {r : List (List It)} (h : validE l = 0) : valAllE (l :: r) = valAllE r := by simp [valAllE, h]
theorem valAll_no {l : List It} {r : List (List It)} (h : ¬ validE l = 0) : valAllE (l :: r) = validE l := by simp [valAllE, h]
theorem itemsAt_mono {w : World} {B B' : Nat} {v : Value} {l : List It} (h : ItemsAt w B v l) (hB : B ≤ B') : ItemsAt w B' v l :=
  ⟨by
    rcases h.form with h0 | ⟨b, off, cap, hv, hlt, hc⟩
    · exact .inl h0
    · exact .inr ⟨b, off, cap, hv, Nat.lt_of_lt_of_le hlt hB, hc⟩, h.ok, h.len⟩
theorem drop_at' {α : Type} {l : List α} {j : Nat} (h : j < l.length) : l.drop j = l[j] :: l.drop (j + 1) := List.drop_eq_getElem_cons h

set_option maxRecDepth 100000 in
set_option maxHeartbeats 1000000 in
theorem validateAll_any (cb cap : Nat) (ls : List (List It)) (w : World) (hV : ValsAt w w.heap.size cb ls) (ht : Tabs w) (hn : ls.length ≤ 1000000) :
    Calls Tryd.prog 50 #[.slice (some ⟨cb, 0, none⟩) ls.length cap] w fun e w' => e = .returned (.int .i64 (valAllE ls)) ∧ Below w.heap.size w w' := by
  have HV := Lib.hid hV
  have HT := Lib.hid ht
  clear hV ht
  go_enter Tryd.func50, Tryd.ntmps50
  go_wp2_with fail
  go_loopw [8] (fun i wr => ∃ j : Nat, j ≤ ls.length ∧ i = .int .i64 j ∧ Below w.heap.size w wr ∧ valAllE (ls.drop j) = valAllE ls) (fun i _ => ls.length - (intOf i).toNat)
  case atStart => exact ⟨0, by omega, rfl, Below.refl _ _, rfl⟩
  case round =>
    obtain ⟨j, hj, rfl, hb, hgo⟩ := hrel
    have HB := Lib.hid hb
    have HGO := Lib.hid hgo
    have hsz := hb.size
    clear hb hgo
    by_cases hlt : j < ls.length
    · obtain ⟨b, off, c2, hc, hI⟩ := HV.out.cell j hlt
      have q := (HB.out.cell (p := ⟨cb, j, none⟩) HV.out.lt).trans hc
      have hC := validate_any ls[j] _ wr (itemsAt_mono (hI.below HB.out) hsz) (HT.out.later HB.out)
      have HC := Lib.hid hC
      have hdr := drop_at' hlt
      have HDR := Lib.hid hdr
      have hlj := hI.len
      clear hC hI hc hdr
      by_cases hz : validE ls[j] = 0
      · have hzb : (validE ls[j] != 0) = false := by simp [hz]
        have HZ := Lib.hid hz
        clear hz
        go_wp2_with (go_at_call 18; refine HC.out.mono ?_; rintro e w1 ⟨rfl, hb1⟩)
        go_roundw
        case rel => exact ⟨j + 1, by omega, by go_num, HB.out.trans (hb1.mono hsz), by rw [← HGO.out, HDR.out, valAll_yes HZ.out]⟩
        case measure => simp [intOf]; omega
      · have hzb : (validE ls[j] != 0) = true := by simp [hz]
        have hv : valAllE ls = validE ls[j] := by rw [← HGO.out, HDR.out, valAll_no hz]
        have HVV := Lib.hid hv
        clear hz hv
        go_wp2_with (go_at_call 18; refine HC.out.mono ?_; rintro e w1 ⟨rfl, hb1⟩)
        go_ret
        exact ⟨ret_int HVV.out.symm, HB.out.trans (hb1.mono hsz)⟩
    · have hjl : j = ls.length := by omega
      have hv : valAllE ls = 0 := by rw [← HGO.out, hjl, List.drop_length]; rfl
      have HVV := Lib.hid hv
      clear hv hjl
      go_wp2
      go_ret
      exact ⟨ret_int HVV.out.symm, HB.out⟩

theorem BoxS.stepB {B B' : Nat} {k n : Int} {d : ByteArray} {W W' : World} (h : BoxS B k n d W) (hb : Below B' W W') (hB : B < B') : BoxS B k n d W' := BoxS.mk' ((hb.block _ hB).trans h.1)

/-- append(a, s...) of items, as one step of a region -/
theorem step_items {ops : Array Oper} {o : Oper} {a : Act} {W : World} {K : Act → World → Prop} {Q : Exit → Act → World → Prop} {E : Prop} (hgd : o.guard = none) (s x : Operand)
    (ho : o.op = .call { callee := .builtin .append, args := #[s, x], argTypes := #[22, 22] })
    (base : Nat) (v : Value) (n : Nat) (xs : List It) (l : List It) (B b off cap : Nat) (hown : W.ownsRow base 58 3 v n (itCells xs)) (hs : a.eval s = v)
    (hI : ItemsAt W B (.slice (some ⟨b, off, none⟩) l.length cap) l) (hx : a.eval x = .slice (some ⟨b, off, none⟩) l.length cap) (hne : l ≠ []) (hn : n ≤ 1000000) (hl : l.length ≤ 1000000) (hb : base ≤ W.heap.size)
    (h : ∀ v' w', w'.ownsRow base 58 3 v' (n + l.length) (itCells (xs ++ l)) → Below base W w' → K (a.put o.dst v') w') :
    if Region.wanted o (yielded ops a.tmps) = true then Oper.wp Tryd.prog o a W K Q else E := by
  have hw : Region.wanted o (yielded ops a.tmps) = true := by simp [Region.wanted, hgd]
  rw [if_pos hw]
  obtain ⟨i0, hi, hz0, hz1, hz2⟩ := info_parts info58
  refine wp_append_own W s x 22 ho base 58 i0 _ 3 32 Tryd.underlying22 hi hz0 hz1 hz2 rfl (by decide) v n _ hs hown ⟨b, off, none⟩ l.length cap (itCells l) hx (itCells_len l) (itemsAt_src hI hne).2 (itCells_one l) (by unfold maxLen; omega) (by omega) hb ?_
  intro v' w' h1 h2 _
  rw [← itCells_app] at h1
  exact h v' w' h1 (below_of_grown hown hb h2)

theorem own_lit (w : World) (k n : Int) (d : ByteArray) (base : Nat) (hb : base ≤ w.heap.size) : (w.alloc (.cells #[.int .i64 k, .int .u64 n, .string d] 58)).ownsRow base 58 3 (.slice (some ⟨w.heap.size, 0, none⟩) 1 1) 1 (itCells [⟨k, n, d⟩]) :=
  World.ownsRow_lit w #[.int .i64 k, .int .u64 n, .string d] 1 hb (by decide) rfl

theorem own_lit2 (w : World) (k n : Int) (d : ByteArray) : ((w.alloc (.cells #[.int .i64 k, .int .u64 n, .string d] 58)).alloc (.cells #[.int .i64 k, .int .u64 n, .string d] 58)).ownsRow (w.heap.size + 1) 58 3 (.slice (some ⟨w.heap.size + 1, 0, none⟩) 1 1) 1 (itCells [⟨k, n, d⟩]) := by
  have h := own_lit (w.alloc (.cells #[.int .i64 k, .int .u64 n, .string d] 58)) k n d (w.heap.size + 1) (by simp)
  rw [show (w.alloc (.cells #[.int .i64 k, .int .u64 n, .string d] 58)).heap.size = w.heap.size + 1 from by simp] at h
  exact h
theorem concat_items (cb cap : Nat) (ls : List (List It)) (w : World) (hV : ValsAt w w.heap.size cb ls) (h1 : 1 ≤ total ls) (h2 : total ls ≤ 1000000) (hn : ls.length ≤ 1000000) (hok : ∀ l ∈ ls, ∀ x ∈ l, 0 ≤ x.n ∧ x.d.size ≤ maxLen) :
    Calls Tryd.prog 74 #[.slice (some ⟨cb, 0, none⟩) ls.length cap] w fun e w' => ∃ g c2, e = .returned (.slice (some ⟨g, 0, none⟩) ls.flatten.length c2) ∧ ItemsAt w' w'.heap.size (.slice (some ⟨g, 0, none⟩) ls.flatten.length c2) ls.flatten ∧ Below w.heap.size w w' := by
  refine (concat_any cb cap ls w hV h1 h2 hn).mono ?_
  rintro e w' ⟨v, rfl, ho, hb⟩
  obtain ⟨g, c2, rfl⟩ : ∃ g c2, v = .slice (some ⟨g, 0, none⟩) (total ls) c2 := by
    rcases ho.2 with ⟨_, h⟩ | ⟨g, c2, _, h, _⟩
    · omega
    · exact ⟨g, c2, h⟩
  refine ⟨g, c2, rfl, itemsAt_own ho ?_ (by show total ls ≤ _; omega), hb⟩
  intro x hx
  obtain ⟨l, hl, hx⟩ := List.mem_flatten.1 hx
  exact hok l hl x hx

theorem concat_fl (cb cap : Nat) (ls : List (List It)) (fl : List It) (hfl : ls.flatten = fl) (w : World) (hV : ValsAt w w.heap.size cb ls) (h1 : 1 ≤ total ls) (h2 : total ls ≤ 1000000) (hn : ls.length ≤ 1000000) (hok : ∀ l ∈ ls, ∀ x ∈ l, 0 ≤ x.n ∧ x.d.size ≤ maxLen) :
    Calls Tryd.prog 74 #[.slice (some ⟨cb, 0, none⟩) ls.length cap] w fun e w' => ∃ g c2, e = .returned (.slice (some ⟨g, 0, none⟩) fl.length c2) ∧ ItemsAt w' w'.heap.size (.slice (some ⟨g, 0, none⟩) fl.length c2) fl ∧ Below w.heap.size w w' := by
  subst hfl
  exact concat_items cb cap ls w hV h1 h2 hn hok

set_option maxRecDepth 100000 in
set_option maxHeartbeats 1000000 in
theorem container_any (k : Int) (n : Nat) (cb cap : Nat) (ls : List (List It)) (w : World) (hV : ValsAt w w.heap.size cb ls) (ht : Tabs w) (_ : k = 5 ∨ k = 6) (hn : n ≤ 512) (h1 : 1 ≤ total ls) (h2 : total ls ≤ 1000000) (hls : ls.length ≤ 1000000)
    (hok : ∀ l ∈ ls, ∀ x ∈ l, 0 ≤ x.n ∧ x.d.size ≤ maxLen) (fl : List It) (hfl : ls.flatten = fl) (hz : validE (⟨k, n, ⟨#[]⟩⟩ :: fl) = 0) :
    Calls Tryd.prog 51 #[.int .i64 k, .int .i64 n, .slice (some ⟨cb, 0, none⟩) ls.length cap] w fun e w' => ∃ v, e = .returned (.tuple #[v, .int .i64 0]) ∧ ItemsAt w' w'.heap.size v (⟨k, n, ⟨#[]⟩⟩ :: fl) ∧ w.heap.size ≤ w'.heap.size ∧ Below w.heap.size w w' := by
  have hmany : tooManyB k (n : Int) = false := by unfold tooManyB; simp; omega
  have HV := Lib.hid hV
  have HT := Lib.hid ht
  have HZ := Lib.hid hz
  have hzb : (validE (⟨k, n, ⟨#[]⟩⟩ :: fl) != 0) = false := by simp [hz]
  have HB0 := Lib.hid ((Below.refl w.heap.size w).alloc (Nat.le_refl _) (.cells #[.int .i64 k, .int .u64 n, .string ⟨#[]⟩] 58))
  have HC := Lib.hid (fun (W : World) (hW : Below w.heap.size w W) => concat_fl cb cap ls fl hfl W ((HV.out.below hW).mono hW.size) h1 h2 hls hok)
  have hne : fl ≠ [] := by
    intro e
    have : total ls = 0 := by unfold total; rw [hfl, e]; rfl
    omega
  have HNE := Lib.hid hne
  have HOKF : Hid (∀ x ∈ (⟨k, n, ⟨#[]⟩⟩ :: fl : List It), 0 ≤ x.n ∧ x.d.size ≤ maxLen) := by
    intro x hx
    rcases List.mem_cons.1 hx with rfl | hx
    · exact ⟨by simp, Nat.zero_le _⟩
    · rw [← hfl] at hx
      obtain ⟨l, hl, hx⟩ := List.mem_flatten.1 hx
      exact hok l hl x hx
  have h2' : fl.length ≤ 1000000 := by rw [← hfl]; exact h2
  clear hne hfl
  have HS0 := Lib.hid (BoxS.mk' (heap_new w (.cells #[.int .i64 k, .int .u64 n, .string ⟨#[]⟩] 58)))
  clear hV ht hz
  go_enter Tryd.func51, Tryd.ntmps51
  go_wp2_with (go_at_call 46; refine (tooMany_any _ _ _).mono ?_; rintro e w1 ⟨rfl, rfl⟩)
  go_region_held3 (fun W => W.heap[w.heap.size]? = some (.cells (itemCs k n ⟨#[]⟩) 58 (0, 0)) ∧ W.cell? ⟨w.heap.size, 0, none⟩ = some (.int .i64 k) ∧ W.cell? ⟨w.heap.size, 1, none⟩ = some (.int .u64 n) ∧ W.cell? ⟨w.heap.size, 2, none⟩ = some (.string ⟨#[]⟩))
    (first | (exact BoxS.step HS0.out (Below.refl _ _).drew) | (exact BoxS.step (by assumption) hb2) | (exact BoxS.stepB (by assumption) hb3 (by omega)) | (exact BoxS.step (by assumption) ((Below.refl _ _).alloc (Nat.le_refl _) _)) | (exact BoxS.step HS0.out ((Below.refl _ _).alloc (Nat.le_refl _) _).drew))
    (first | (go_at_call 74; refine (HC.out _ (by first | exact (HB0.out.alloc HB0.out.size _).drew | exact HB0.out.drew)).mono ?_; rintro e w2 ⟨g2, c2, rfl, hI2, hb2⟩) | (refine step_items rfl (.tmp 21) (.tmp 23) rfl (w.heap.size + 1) (.slice (some ⟨w.heap.size + 1, 0, none⟩) 1 1) 1 [⟨k, n, ⟨#[]⟩⟩] fl _ g2 0 c2 (own_below (by exact own_lit2 w k n ⟨#[]⟩) hb2) rfl hI2 rfl HNE.out (by omega) h2' (by have := hb2.size; simp at this; omega) ?_; intro v3 w3 ho3 hb3) | (refine step_items rfl (.tmp 21) (.tmp 23) rfl (w.heap.size + 1) (.slice (some ⟨w2.heap.size, 0, none⟩) 1 1) 1 [⟨k, n, ⟨#[]⟩⟩] fl w2.heap.size g2 0 c2 (by exact own_lit w2 k n ⟨#[]⟩ (w.heap.size + 1) (by have := hb2.size; simp at this; omega)) rfl (by exact hI2.below ((Below.refl _ w2).alloc (Nat.le_refl _) _)) rfl HNE.out (by omega) h2' (by have := hb2.size; simp at this ⊢; omega) ?_; intro v3 w3 ho3 hb3))
  all_goals
    have hbw : Below w.heap.size w w3 := by first | exact ((HB0.out.alloc HB0.out.size _).drew.trans (hb2.mono (HB0.out.alloc HB0.out.size _).drew.size)).trans (hb3.mono (by omega)) | exact (((HB0.out.drew.trans (hb2.mono HB0.out.drew.size))).alloc (HB0.out.drew.trans (hb2.mono HB0.out.drew.size)).size _).trans (hb3.mono (by omega))
    obtain ⟨g3, c3, rfl⟩ : ∃ g3 c3, v3 = .slice (some ⟨g3, 0, none⟩) (1 + fl.length) c3 := by
      rcases ho3.2 with ⟨_, h⟩ | ⟨g, c2, _, h, _⟩
      · omega
      · exact ⟨g, c2, h⟩
    have hI3 : ItemsAt w3 w3.heap.size (.slice (some ⟨g3, 0, none⟩) (1 + fl.length) c3) (⟨k, n, ⟨#[]⟩⟩ :: fl) := itemsAt_own ho3 (HOKF.out) (by simp; omega)
    have hC := validate_any _ _ w3 hI3 (HT.out.later hbw)
    have HC2 := Lib.hid hC
    have HI3 := Lib.hid hI3
    have HBW := Lib.hid hbw
    clear hC hI3 hbw ho3 hb3 hb2 hI2
    go_split_ands
    go_wp2_with (go_at_call 18; refine HC2.out.mono ?_; rintro e w4 ⟨rfl, hb4⟩)
    go_ret2
    have hb5 := HBW.out.trans (hb4.mono HBW.out.size)
    exact ⟨_, rfl, itemsAt_mono (HI3.out.below hb4) hb4.size, hb5.size, hb5⟩
end Go.Proofs.YtepinmeidjlmmaaDoor
