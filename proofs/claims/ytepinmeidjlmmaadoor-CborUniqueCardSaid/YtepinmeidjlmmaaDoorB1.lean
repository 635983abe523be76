import Derived.Test.YtepinmeidjlmmaaDoorA9
namespace Go.Proofs.YtepinmeidjlmmaaDoor
open Go.RowKit

structure It where
  k : Int
  n : Int
  d : ByteArray

/-- the slice v reads as the items l in blocks below B -/
structure ItemsAt (w : World) (B : Nat) (v : Value) (l : List It) : Prop where
  form : (v = .slice none 0 0 ∧ l = []) ∨ ∃ b off cap, v = .slice (some ⟨b, off, none⟩) l.length cap ∧ b < B ∧ ∀ i (h : i < l.length), w.cell? ⟨b, off + i * 3, none⟩ = some (.int .i64 l[i].k) ∧ w.cell? ⟨b, off + i * 3 + 1, none⟩ = some (.int .u64 l[i].n) ∧ w.cell? ⟨b, off + i * 3 + 2, none⟩ = some (.string l[i].d)
  ok : ∀ x ∈ l, 0 ≤ x.n ∧ x.d.size ≤ maxLen
  len : l.length ≤ 1000000000000000
theorem ItemsAt.below {w w' : World} {B : Nat} {v : Value} {l : List It} (h : ItemsAt w B v l) (hb : Below B w w') : ItemsAt w' B v l :=
  ⟨by
    rcases h.form with h0 | ⟨b, off, cap, hv, hlt, hc⟩
    · exact .inl h0
    · exact .inr ⟨b, off, cap, hv, hlt, fun i hi => ⟨(hb.cell (p := ⟨b, off + i * 3, none⟩) hlt).trans (hc i hi).1, (hb.cell (p := ⟨b, off + i * 3 + 1, none⟩) hlt).trans (hc i hi).2.1, (hb.cell (p := ⟨b, off + i * 3 + 2, none⟩) hlt).trans (hc i hi).2.2⟩⟩, h.ok, h.len⟩

def validGo (c : Nat) (s : List Lv) : List It → Int
  | [] => if compB c s = true then 0 else 1
  | x :: r => if checkE c s x.k x.n x.d = 0 then validGo (c + 1) (enterS s x.k x.n x.d) r else checkE c s x.k x.n x.d
def validE (l : List It) : Int := validGo 0 [] l

/-- what a checked item is like -/
theorem check_zero {c : Nat} {s : List Lv} {k n : Int} {d : ByteArray} (h : checkE c s k n d = 0) :
    c < 512 ∧ 1 ≤ k ∧ k ≤ 8 ∧ (k = 7 → n ≤ 1) ∧ d.size ≤ 1024 ∧ (k = 5 → n ≤ 512) ∧ (k = 6 → n ≤ 512) ∧ s.length ≤ 8 ∧ (atKeyB s = true → (k = 1 ∨ k = 2 ∨ k = 4) ∧ d.size ≤ 1024) ∧ compB c s = false := by
  have hA : compB c s = false := by
    cases hA : compB c s with
    | false => rfl
    | true => rw [check2 hA] at h; cases h
  have hP : placeE c s k = 0 := by
    by_cases hP : placeE c s k = 0
    · exact hP
    · rw [checkP hA hP] at h; exact h
  have hS : shapeB k n d = true := by
    cases hS : shapeB k n d with
    | true => rfl
    | false => rw [check4 hA hP hS] at h; cases h
  have hL : tooLargeB k (argN k n d) = false := by
    cases hL : tooLargeB k (argN k n d) with
    | false => rfl
    | true => rw [check8 hA hP hS hL] at h; cases h
  obtain ⟨hc, hk1, hk8⟩ := place_kind hP
  obtain ⟨h7, hd⟩ := sound_item hS hL hk1
  have hpl := hP
  unfold placeE at hpl
  rw [if_neg (by omega), if_neg (by omega)] at hpl
  by_cases hkey : atKeyB s = true ∧ canKeyB k = false
  · rw [if_pos hkey] at hpl; cases hpl
  rw [if_neg hkey] at hpl
  have hlen : s.length ≤ 8 := by
    by_cases hl : 8 < s.length
    · rw [if_pos hl] at hpl; cases hpl
    · omega
  have hL2 := hL
  unfold tooLargeB tooManyB argN at hL2
  refine ⟨hc, hk1, hk8, h7, hd, fun h5 => ?_, fun h6 => ?_, hlen, fun hk => ⟨?_, hd⟩, hA⟩
  · subst h5; simp [hasDataB] at hL2; exact hL2
  · subst h6; simp [hasDataB] at hL2; exact hL2
  · have hcan : canKeyB k = true := by
      cases hcan : canKeyB k with
      | true => rfl
      | false => exact absurd ⟨hk, hcan⟩ hkey
    unfold canKeyB at hcan
    simp at hcan
    omega

theorem popAll_top {s : List Lv} : ∀ t r, popAll s = t :: r → t.mi ≠ 0 := by
  induction s with
  | nil => intro t r e; cases e
  | cons x y ih =>
    intro t r e
    by_cases h : x.mi = 0
    · rw [popAll_z h] at e; exact ih t r e
    · rw [popAll_nz h] at e; cases e; exact h

theorem top_pos {w : World} {base b c : Nat} {s : List Lv} {v : Value} (h : nestAt w base b c (popAll s) v) : ∀ t r, popAll s = t :: r → 1 ≤ t.mi := by
  intro t r e
  have h0 := popAll_top t r e
  have h1 := (h.ok t (by rw [e]; simp)).1
  omega

theorem NF.below {b : Nat} {w w' : World} (h : NF b w w') : Below b w w' := ⟨h.os, h.tape, h.output, h.size, h.low⟩

theorem validGo_nil {c : Nat} {s : List Lv} : validGo c s [] = if compB c s = true then 0 else 1 := rfl
theorem validGo_yes {c : Nat} {s : List Lv} {x : It} {r : List It} (h : checkE c s x.k x.n x.d = 0) : validGo c s (x :: r) = validGo (c + 1) (enterS s x.k x.n x.d) r := by simp [validGo, h]
theorem validGo_no {c : Nat} {s : List Lv} {x : It} {r : List It} (h : ¬ checkE c s x.k x.n x.d = 0) : validGo c s (x :: r) = checkE c s x.k x.n x.d := by simp [validGo, h]
theorem drop_at {l : List It} {j : Nat} (h : j < l.length) : l.drop j = l[j] :: l.drop (j + 1) := List.drop_eq_getElem_cons h

set_option maxRecDepth 100000 in
set_option maxHeartbeats 1000000 in
theorem validate_any (l : List It) (v : Value) (w : World) (hI : ItemsAt w w.heap.size v l) (ht : Tabs w) :
    Calls Tryd.prog 18 #[v] w fun e w' => e = .returned (.int .i64 (validE l)) ∧ Below w.heap.size w w' := by
  have hform := hI.form
  have hlen := hI.len
  have hok := hI.ok
  have HT := Lib.hid ht
  have hN0 : nestAt (w.alloc (.cells #[.int .i64 0, .slice none 0 0] 68)) (w.heap.size + 1) w.heap.size 0 [] (.slice none 0 0) :=
    ⟨by simp, by simp, by simp, by simp, World.ownsRow_nil _ _ _ _, by omega, by simp, by simp, by omega, by simp⟩
  have HN0 := Lib.hid hN0
  clear ht hN0
  have hB0 : Below w.heap.size w (w.alloc (.cells #[.int .i64 0, .slice none 0 0] 68)) := (Below.refl _ w).alloc (Nat.le_refl _) _
  have HB0 := Lib.hid hB0
  clear hB0
  rcases hform with ⟨rfl, rfl⟩ | ⟨b, off, cap, rfl, hb, hcells⟩
  · clear hlen hok hI
    go_enter Tryd.func18, Tryd.ntmps18
    go_wp2_with fail
    go_loopw [9] (fun i wr => i = .int .i64 0 ∧ nestAt wr (w.heap.size + 1) w.heap.size 0 [] (.slice none 0 0) ∧ Below w.heap.size w wr) (fun _ _ => 0)
    case atStart => exact ⟨rfl, HN0.out, HB0.out⟩
    case round =>
      obtain ⟨rfl, hn, hb⟩ := hrel
      have HN := Lib.hid hn
      have HB := Lib.hid hb
      clear hn hb
      have hcb : compB 0 [] = false := rfl
      go_wp2_with (go_at_call 41; refine (complete_any _ HN.out).mono ?_; rintro e w' ⟨rfl, rfl⟩)
      go_ret
      exact ⟨rfl, HB.out⟩
  · have HC := Lib.hid hcells
    have HOK := Lib.hid hok
    clear hcells hok hI
    go_enter Tryd.func18, Tryd.ntmps18
    go_wp2_with fail
    go_loopw [9] (fun i wr => ∃ j : Nat, j ≤ l.length ∧ i = .int .i64 j ∧ Below w.heap.size w wr ∧ ∃ c s v, nestAt wr (w.heap.size + 1) w.heap.size c s v ∧ (∀ t r, s = t :: r → 1 ≤ t.mi) ∧ validGo c s (l.drop j) = validE l) (fun i _ => l.length - (intOf i).toNat)
    case atStart => exact ⟨0, by omega, rfl, HB0.out, 0, [], _, HN0.out, by simp, rfl⟩
    case round =>
      obtain ⟨j, hj, rfl, hbw, c, s, v, hn, htop, hgo⟩ := hrel
      have HN := Lib.hid hn
      have HB := Lib.hid hbw
      have HTOP := Lib.hid htop
      have HGO := Lib.hid hgo
      have hsz : w.heap.size < wr.heap.size := Nat.lt_of_lt_of_le hn.lt hn.hb
      have hbr : b < wr.heap.size := by omega
      clear hn hbw htop hgo
      by_cases hlt : j < l.length
      · obtain ⟨c0, c1, c2⟩ := HC.out j hlt
        have q0 := (HB.out.cell (p := ⟨b, off + j * 3, none⟩) hb).trans c0
        have q1 := (HB.out.cell (p := ⟨b, off + j * 3 + 1, none⟩) hb).trans c1
        have q2 := (HB.out.cell (p := ⟨b, off + j * 3 + 2, none⟩) hb).trans c2
        clear c0 c1 c2
        obtain ⟨hx0, hxd⟩ := HOK.out l[j] (List.getElem_mem hlt)
        have hdr := drop_at hlt
        have HDR := Lib.hid hdr
        clear hdr
        generalize l[j] = x at q0 q1 q2 hx0 hxd HDR
        obtain ⟨k, n, d⟩ := x
        simp only at q0 q1 q2 hx0 hxd
        have hA : Below w.heap.size w (wr.alloc (.cells #[.int .i64 k, .int .u64 n, .string d] 58)) := HB.out.alloc (by omega) _
        have HA := Lib.hid hA
        clear hA
        have C := check_any k n d _ (HN.out.later ((Below.refl _ wr).alloc (Nat.le_refl _) (.cells #[.int .i64 k, .int .u64 n, .string d] 58))) (HT.out.later HA.out) hx0 hxd
        have HCK := Lib.hid C
        clear C
        by_cases hz : checkE c s k n d = 0
        · have hzb : (checkE c s k n d != 0) = false := by simp [hz]
          obtain ⟨z1, z2, z3, z4, z5, z6, z7, z8, z9, _⟩ := check_zero hz
          have HZ := Lib.hid hz
          clear hz
          have HE := Lib.hid (fun (W : World) (hW : nestAt W (w.heap.size + 1) w.heap.size c s v) => enter_any k n d W hW hx0 z7 z6 (by omega) (by omega) HTOP.out z9)
          clear z4 z6 z7 z9
          go_wp2_with (first | (go_at_call 39; refine HCK.out.mono ?_; rintro e w1 ⟨rfl, hb1⟩; have y0 : w1.cell? ⟨wr.heap.size, 0, none⟩ = some (.int .i64 k) := (hb1.cell (p := ⟨wr.heap.size, 0, none⟩) (by simp)).trans (by simp); have y1 : w1.cell? ⟨wr.heap.size, 1, none⟩ = some (.int .u64 n) := (hb1.cell (p := ⟨wr.heap.size, 1, none⟩) (by simp)).trans (by simp); have y2 : w1.cell? ⟨wr.heap.size, 2, none⟩ = some (.string d) := (hb1.cell (p := ⟨wr.heap.size, 2, none⟩) (by simp)).trans (by simp)) | (go_at_call 40; refine (HE.out _ (by exact (HN.out.later ((Below.refl _ wr).alloc (Nat.le_refl _) _)).later hb1)).mono ?_; rintro e w2 ⟨rfl, hF, v2, hn2⟩))
          go_roundw
          case rel =>
            have hb2 := HA.out.trans (hb1.mono HA.out.size)
            have hb3 := hb2.trans hF.below
            exact ⟨j + 1, by omega, by go_num, hb3, c + 1, enterS s k n d, v2, hn2, top_pos hn2, by rw [← HGO.out, HDR.out, validGo_yes HZ.out]⟩
          case measure => simp [intOf]; omega
        · have hzb : (checkE c s k n d != 0) = true := by simp [hz]
          have hv : validE l = checkE c s k n d := by rw [← HGO.out, HDR.out, validGo_no hz]
          have HV := Lib.hid hv
          clear hz hv
          go_wp2_with (go_at_call 39; refine HCK.out.mono ?_; rintro e w1 ⟨rfl, hb1⟩)
          go_ret
          exact ⟨ret_int HV.out.symm, HA.out.trans (hb1.mono HA.out.size)⟩
      · have hjl : j = l.length := by omega
        have hv : validE l = if compB c s = true then 0 else 1 := by rw [← HGO.out, hjl, List.drop_length]; rfl
        have HV := Lib.hid hv
        clear hv hjl
        by_cases hcb : compB c s = true
        · go_wp2_with (go_at_call 41; refine (complete_any _ HN.out).mono ?_; rintro e w' ⟨rfl, rfl⟩)
          go_ret
          exact ⟨ret_int (by rw [HV.out, if_pos hcb]), HB.out⟩
        · have hcb2 : compB c s = false := by simpa using hcb
          clear hcb
          go_wp2_with (go_at_call 41; refine (complete_any _ HN.out).mono ?_; rintro e w' ⟨rfl, rfl⟩)
          go_ret
          exact ⟨ret_int (by rw [HV.out, hcb2]; rfl), HB.out⟩

/-- an item that was checked without an error -/
def Sound (x : It) : Prop := 0 ≤ x.n ∧ 1 ≤ x.k ∧ x.k ≤ 8 ∧ (x.k = 7 → x.n ≤ 1) ∧ x.d.size ≤ 1024
theorem validGo_sound : ∀ (l : List It) (c : Nat) (s : List Lv), (∀ x ∈ l, 0 ≤ x.n) → validGo c s l = 0 → (∀ x ∈ l, Sound x) ∧ (0 < l.length → c + l.length ≤ 512)
  | [], _, _, _, _ => ⟨by simp, by simp⟩
  | x :: r, c, s, h0, h => by
    by_cases hz : checkE c s x.k x.n x.d = 0
    · rw [validGo_yes hz] at h
      obtain ⟨z1, z2, z3, z4, z5, _⟩ := check_zero hz
      obtain ⟨h1, h2⟩ := validGo_sound r _ _ (fun y hy => h0 y (List.mem_cons_of_mem _ hy)) h
      refine ⟨fun y hy => ?_, fun _ => ?_⟩
      · rcases List.mem_cons.1 hy with rfl | hy
        · exact ⟨h0 _ (by simp), z2, z3, z4, z5⟩
        · exact h1 y hy
      · simp only [List.length_cons]
        cases r with
        | nil => simp; omega
        | cons a b => have := h2 (by simp); simp only [List.length_cons] at this ⊢; omega
    · rw [validGo_no hz] at h; exact absurd h hz

def encAll (l : List It) : List Int := l.flatMap fun x => encItem x.k x.n x.d
theorem encAll_nil : encAll [] = [] := rfl
theorem encAll_take {l : List It} {j : Nat} (h : j < l.length) : encAll (l.take (j + 1)) = encAll (l.take j) ++ encItem l[j].k l[j].n l[j].d := by
  rw [List.take_succ_eq_append_getElem h, encAll, List.flatMap_append]; simp [encAll]
theorem encAll_len {l : List It} (h : ∀ x ∈ l, Sound x) : (encAll l).length ≤ l.length * 1034 := by
  induction l with
  | nil => simp [encAll]
  | cons x r ih =>
    have h1 := ih fun y hy => h y (List.mem_cons_of_mem _ hy)
    have h2 := encItem_len x.k x.n x.d
    have h3 := (h x (by simp)).2.2.2.2
    have e : encAll (x :: r) = encItem x.k x.n x.d ++ encAll r := rfl
    rw [e, List.length_append, List.length_cons]
    omega

/-- a new slice of these bytes -/
def NewBytes (w : World) (l : List Int) (v : Value) (w' : World) : Prop := w'.ownsRow w.heap.size 5 1 v l.length (bv l) ∧ Below w.heap.size w w'

theorem itemsAt_cell {w : World} {B b off cap : Nat} {l : List It} {v : Value} (h : ItemsAt w B v l) (hv : v = .slice (some ⟨b, off, none⟩) l.length cap) : True := trivial

set_option maxRecDepth 100000 in
set_option maxHeartbeats 1000000 in
theorem encode_bad (l : List It) (v : Value) (w : World) (hI : ItemsAt w w.heap.size v l) (ht : Tabs w) (hz : validE l ≠ 0) :
    Calls Tryd.prog 16 #[v] w fun e w' => e = .returned (.tuple #[.slice none 0 0, .int .i64 (validE l)]) ∧ Below w.heap.size w w' := by
  have HV := Lib.hid (validate_any l v w hI ht)
  have hzb : (validE l != 0) = true := by simpa using hz
  clear hI ht hz
  go_enter Tryd.func16, Tryd.ntmps16
  go_wp2_with (go_at_call 18; refine HV.out.mono ?_; rintro e w1 ⟨rfl, hb1⟩)
  go_ret2
  exact ⟨rfl, hb1⟩

set_option maxRecDepth 100000 in
set_option maxHeartbeats 1000000 in
theorem encode_good (l : List It) (v : Value) (w : World) (hI : ItemsAt w w.heap.size v l) (ht : Tabs w) (hz : validE l = 0) :
    Calls Tryd.prog 16 #[v] w fun e w' => ∃ v', e = .returned (.tuple #[v', .int .i64 0]) ∧ NewBytes w (encAll l) v' w' := by
  have hzb : (validE l != 0) = false := by simpa using hz
  have hgo := validGo_sound l 0 [] (fun x hx => (hI.ok x hx).1) hz
  have HV := Lib.hid (validate_any l v w hI ht)
  have hlen0 : 0 < l.length := by
    cases l with
    | nil => exact absurd hz (by decide)
    | cons a b => simp
  have hlen : l.length ≤ 512 := by have := hgo.2 hlen0; omega
  have HS := Lib.hid hgo.1
  have HT := Lib.hid ht
  have HZ := Lib.hid hz
  have HI := Lib.hid hI
  obtain ⟨b, off, cap, rfl, hb, hcells⟩ : ∃ b off cap, v = .slice (some ⟨b, off, none⟩) l.length cap ∧ b < w.heap.size ∧ ∀ i (h : i < l.length), w.cell? ⟨b, off + i * 3, none⟩ = some (.int .i64 l[i].k) ∧ w.cell? ⟨b, off + i * 3 + 1, none⟩ = some (.int .u64 l[i].n) ∧ w.cell? ⟨b, off + i * 3 + 2, none⟩ = some (.string l[i].d) := by
    rcases hI.form with ⟨_, h⟩ | h
    · rw [h] at hlen0; cases hlen0
    · exact h
  have HC := Lib.hid hcells
  clear hcells hI ht hz hgo
  go_enter Tryd.func16, Tryd.ntmps16
  go_wp2_with (go_at_call 18; refine HV.out.mono ?_; rintro e w1 ⟨rfl, hb1⟩)
  have HB1 := Lib.hid hb1
  clear hb1
  go_loopw [5, 15] (fun v i wr => ∃ j : Nat, j ≤ l.length ∧ i = .int .i64 j ∧ wr.ownsRow w.heap.size 5 1 v (encAll (l.take j)).length (bv (encAll (l.take j))) ∧ Below w.heap.size w wr) (fun _ i _ => l.length - (intOf i).toNat)
  case atStart => exact ⟨0, by omega, rfl, World.ownsRow_nil _ _ _ _, HB1.out⟩
  case round =>
    obtain ⟨j, hj, rfl, ho, hbw⟩ := hrel
    have HO := Lib.hid ho
    have HB := Lib.hid hbw
    have hsz : w.heap.size ≤ wr.heap.size := hbw.size
    have hbr : b < wr.heap.size := by omega
    clear ho hbw
    by_cases hlt : j < l.length
    · obtain ⟨c0, c1, c2⟩ := HC.out j hlt
      have q0 := (HB.out.cell (p := ⟨b, off + j * 3, none⟩) hb).trans c0
      have q1 := (HB.out.cell (p := ⟨b, off + j * 3 + 1, none⟩) hb).trans c1
      have q2 := (HB.out.cell (p := ⟨b, off + j * 3 + 2, none⟩) hb).trans c2
      clear c0 c1 c2
      have hx := HS.out l[j] (List.getElem_mem hlt)
      have htk := encAll_take hlt
      have HTK := Lib.hid htk
      have hln : (encAll (l.take j)).length ≤ 900000 := by
        have h1 := encAll_len (l := l.take j) (fun y hy => HS.out y (List.mem_of_mem_take hy))
        have h2 : (l.take j).length ≤ 512 := by rw [List.length_take]; omega
        have h3 : (l.take j).length * 1034 ≤ 512 * 1034 := Nat.mul_le_mul_right _ h2
        omega
      clear htk
      generalize l[j] = x at q0 q1 q2 hx HTK
      obtain ⟨k, n, d⟩ := x
      simp only [Sound] at q0 q1 q2 hx
      have hA : Below w.heap.size w (wr.alloc (.cells #[.int .i64 k, .int .u64 n, .string d] 58)) := HB.out.alloc (by omega) _
      have C := appendItem_any w.heap.size k n d _ _ _ (wr.alloc (.cells #[.int .i64 k, .int .u64 n, .string d] 58)) (HT.out.later hA).tz (HO.out.alloc _) (by simp; omega) hln hx.1 hx.2.1 hx.2.2.1 hx.2.2.2.1 (by omega)
      have HCK := Lib.hid C
      have HA := Lib.hid hA
      clear C hA hx
      go_wp2_with (go_at_call 37; refine HCK.out.mono ?_; rintro e w2 ⟨v2, rfl, ho2, hb2, _⟩)
      go_roundw
      case rel => exact ⟨j + 1, by omega, by go_num, by rw [HTK.out, List.length_append, bv_app]; exact ho2, HA.out.trans hb2⟩
      case measure => simp [intOf]; omega
    · have hjl : j = l.length := by omega
      subst hjl
      go_wp2
      go_ret2
      exact ⟨_, rfl, by have h := HO.out; rwa [List.take_length] at h, HB.out⟩
end Go.Proofs.YtepinmeidjlmmaaDoor
