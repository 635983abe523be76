import Derived.Test.YtepinmeidjlmmaaDoorF5
namespace Go.Proofs.YtepinmeidjlmmaaDoor
open Go.RowKit

theorem items_len {w : World} {B : Nat} {a : Option Addr} {len cap : Nat} {l : List It} (hI : ItemsAt w B (.slice a len cap) l) : len = l.length := by
  rcases hI.form with ⟨h, h2⟩ | ⟨b, off, c, h, _⟩
  · cases h; rw [h2]; rfl
  · cases h; rfl

set_option maxRecDepth 100000 in
set_option maxHeartbeats 400000 in
theorem validR_of (r : Nat × Int) (n : Nat) (a : Option Addr) (cap : Nat) (w : World)
    (hC : Calls Tryd.prog 42 #[.slice a n cap, .int .i64 0, .int .i64 0, .bool false, .string ⟨#[]⟩] w (WalkPost w r)) :
    Calls Tryd.prog 19 #[.slice a n cap] w fun e w' => e = .returned (.int .i64 (if r.2 ≠ 0 then r.2 else if r.1 < n then 2 else 0)) ∧ Below w.heap.size w w' := by
  obtain ⟨m, e⟩ := r
  have HC := Lib.hid hC
  clear hC
  by_cases he : e = 0
  · subst he
    by_cases hm : m < n
    · have h1 : (m : Int) < (n : Int) := by omega
      rw [if_neg (by simp), if_pos hm]
      go_enter Tryd.func19, Tryd.ntmps19
      go_wp2_with (go_at_call 42; refine HC.out.mono ?_; rintro e w1 ⟨rfl, hb1⟩)
      go_ret
      exact ⟨rfl, hb1⟩
    · have h1 : ¬ (m : Int) < (n : Int) := by omega
      rw [if_neg (by simp), if_neg hm]
      go_enter Tryd.func19, Tryd.ntmps19
      go_wp2_with (go_at_call 42; refine HC.out.mono ?_; rintro e w1 ⟨rfl, hb1⟩)
      go_ret
      exact ⟨rfl, hb1⟩
  · rw [if_pos he]
    go_enter Tryd.func19, Tryd.ntmps19
    go_wp2_with (go_at_call 42; refine HC.out.mono ?_; rintro e w1 ⟨rfl, hb1⟩)
    go_ret
    exact ⟨rfl, hb1⟩
theorem validR_any (l : List It) (v : Value) (w : World) (hI : ItemsAt w w.heap.size v l) (ht : Tabs w) :
    Calls Tryd.prog 19 #[v] w fun e w' => e = .returned (.int .i64 (validR l)) ∧ Below w.heap.size w w' := by
  have hC := walk_any l v 9 0 rfl 0 false ⟨#[]⟩ w hI ht
  rcases hI.form with ⟨rfl, hl⟩ | ⟨b, off, cap, rfl, _⟩
  · have h := validR_of _ 0 none 0 w hC
    have e : l.length = 0 := by rw [hl]; rfl
    unfold validR
    rw [e]
    exact h
  · exact validR_of _ l.length _ cap w hC

theorem validGo_shape : ∀ (l : List It) (c : Nat) (s : List Lv), validGo c s l = 0 → ∀ x ∈ l, shapeB x.k x.n x.d = true
  | [], _, _, _ => by simp
  | x :: r, c, s, h => by
    rw [validGo] at h
    by_cases hz : checkE c s x.k x.n x.d = 0
    · rw [if_pos hz] at h
      have hs : shapeB x.k x.n x.d = true := by
        cases hc : compB c s with
        | true => rw [check2 hc] at hz; cases hz
        | false =>
          by_cases hp : placeE c s x.k = 0
          · cases h5 : shapeB x.k x.n x.d with
            | true => rfl
            | false => rw [check4 hc hp h5] at hz; cases hz
          · rw [checkP hc hp] at hz; exact absurd hz hp
      intro y hy
      rcases List.mem_cons.1 hy with rfl | hy
      · exact hs
      · exact validGo_shape r _ _ h y hy
    · rw [if_neg hz] at h; exact absurd h hz

def encAllR (l : List It) : List Int := l.flatMap fun x => dataI (bytesS x.k x.n x.d)
theorem encAllR_take {l : List It} {j : Nat} (h : j < l.length) : encAllR (l.take (j + 1)) = encAllR (l.take j) ++ dataI (bytesS l[j].k l[j].n l[j].d) := by
  rw [List.take_succ_eq_append_getElem h, encAllR, List.flatMap_append]; simp [encAllR]
theorem bytesS_len (k n : Int) (d : ByteArray) : (bytesS k n d).size ≤ 10 + d.size := by
  have e : (bytesS k n d).size = (headR k n d).length + d.size := by
    rw [bytesS, ByteArray.size_append, strOfNums_size]
  have hlen : (headR k n d).length ≤ 9 := by
    unfold headR
    split
    · simp
    split
    · simp
    exact encHead_len _ _
  omega
theorem encAllR_len : ∀ {l : List It}, (∀ x ∈ l, Sound x) → (encAllR l).length ≤ l.length * 1034
  | [], _ => by simp [encAllR]
  | x :: r, h => by
    have h1 := encAllR_len (l := r) fun y hy => h y (List.mem_cons_of_mem _ hy)
    have h2 := bytesS_len x.k x.n x.d
    have h3 := (h x (by simp)).2.2.2.2
    have e : encAllR (x :: r) = dataI (bytesS x.k x.n x.d) ++ encAllR r := by simp [encAllR]
    rw [e, List.length_append, dataI_len, List.length_cons]
    omega

/-- both encodings read as one string -/
theorem enc_same_item {x : It} (hs : Sound x) (hsh : shapeB x.k x.n x.d = true) : Lib.bytesOf (dataI (bytesS x.k x.n x.d)) = Lib.bytesOf (encItem x.k x.n x.d) := by
  rw [bytesOf_data, ← Lib.toList_data]
  by_cases hk : x.k ≤ 6
  · exact bytesS_enc hk
  · have hnd : hasDataB x.k = false := by simp [hasDataB]; omega
    have he : x.d.toList.isEmpty = true := by
      cases he : x.d.toList.isEmpty with
      | true => rfl
      | false => rw [shape_bad he hnd] at hsh; cases hsh
    have hd : x.d.data.toList = [] := by rw [Lib.toList_data] at he; simpa using he
    rw [bytesS_list, hd, List.append_nil]
    have h8 := hs.2.2.1
    by_cases h7 : x.k = 7
    · rw [h7, encItem7]; simp [headR]
    · have h8 : x.k = 8 := by omega
      rw [h8, encItem8]; simp [headR]
theorem bytesOf_app (a b : List Int) : Lib.bytesOf (a ++ b) = Lib.bytesOf a ++ Lib.bytesOf b := by simp [Lib.bytesOf]
theorem enc_same : ∀ (l : List It), (∀ x ∈ l, Sound x) → (∀ x ∈ l, shapeB x.k x.n x.d = true) → Lib.bytesOf (encAllR l) = Lib.bytesOf (encAll l)
  | [], _, _ => rfl
  | x :: r, h, h2 => by
    have e1 : encAllR (x :: r) = dataI (bytesS x.k x.n x.d) ++ encAllR r := by simp [encAllR]
    have e2 : encAll (x :: r) = encItem x.k x.n x.d ++ encAll r := by simp [encAll]
    rw [e1, e2, bytesOf_app, bytesOf_app, enc_same_item (h x (by simp)) (h2 x (by simp)), enc_same r (fun y hy => h y (List.mem_cons_of_mem _ hy)) (fun y hy => h2 y (List.mem_cons_of_mem _ hy))]
theorem strOf_same {l : List It} (h : ∀ x ∈ l, Sound x) (h2 : ∀ x ∈ l, shapeB x.k x.n x.d = true) : strOfNums (encAllR l) = strOfNums (encAll l) := by
  have e := enc_same l h h2
  apply ByteArray.ext
  apply Array.toList_inj.1
  exact e

set_option maxRecDepth 100000 in
set_option maxHeartbeats 1000000 in
theorem encodeR_bad (l : List It) (v : Value) (w : World) (hI : ItemsAt w w.heap.size v l) (ht : Tabs w) (hz : validR l ≠ 0) :
    Calls Tryd.prog 17 #[v] w fun e w' => e = .returned (.tuple #[.slice none 0 0, .int .i64 (validR l)]) ∧ Below w.heap.size w w' := by
  have HV := Lib.hid (validR_any l v w hI ht)
  have hzb : (validR l != 0) = true := by simpa using hz
  clear hI ht hz
  go_enter Tryd.func17, Tryd.ntmps17
  go_wp2_with (go_at_call 19; refine HV.out.mono ?_; rintro e w1 ⟨rfl, hb1⟩)
  go_ret2
  exact ⟨rfl, hb1⟩

set_option maxRecDepth 100000 in
set_option maxHeartbeats 1000000 in
theorem encodeR_good (l : List It) (v : Value) (w : World) (hI : ItemsAt w w.heap.size v l) (ht : Tabs w) (hz : validR l = 0) (hS : ∀ x ∈ l, Sound x) (hlen : l.length ≤ 512) :
    Calls Tryd.prog 17 #[v] w fun e w' => ∃ v', e = .returned (.tuple #[v', .int .i64 0]) ∧ NewBytes w (encAllR l) v' w' := by
  have hzb : (validR l != 0) = false := by simpa using hz
  have HV := Lib.hid (validR_any l v w hI ht)
  have HZ := Lib.hid hz
  have HS := Lib.hid hS
  have hlen0 : 0 < l.length := by
    cases l with
    | nil => exact absurd hz (by decide)
    | cons a b => simp
  obtain ⟨b, off, cap, rfl, hb, hcells⟩ : ∃ b off cap, v = .slice (some ⟨b, off, none⟩) l.length cap ∧ b < w.heap.size ∧ ∀ i (h : i < l.length), w.cell? ⟨b, off + i * 3, none⟩ = some (.int .i64 l[i].k) ∧ w.cell? ⟨b, off + i * 3 + 1, none⟩ = some (.int .u64 l[i].n) ∧ w.cell? ⟨b, off + i * 3 + 2, none⟩ = some (.string l[i].d) := by
    rcases hI.form with ⟨_, h⟩ | h
    · rw [h] at hlen0; cases hlen0
    · exact h
  have HC := Lib.hid hcells
  clear hcells hI ht hz hS
  go_enter Tryd.func17, Tryd.ntmps17
  go_wp2_with (go_at_call 19; refine HV.out.mono ?_; rintro e w1 ⟨rfl, hb1⟩)
  have HB1 := Lib.hid hb1
  clear hb1
  go_loopw [5, 6] (fun v i wr => ∃ j : Nat, j ≤ l.length ∧ i = .int .i64 j ∧ wr.ownsRow w.heap.size 5 1 v (encAllR (l.take j)).length (bv (encAllR (l.take j))) ∧ Below w.heap.size w wr) (fun _ i _ => l.length - (intOf i).toNat)
  case atStart => exact ⟨0, by omega, rfl, World.ownsRow_nil _ _ _ _, HB1.out⟩
  case round =>
    obtain ⟨j, hj, rfl, ho, hbw⟩ := hrel
    have HO := Lib.hid ho
    have HB := Lib.hid hbw
    have hsz : w.heap.size ≤ wr.heap.size := hbw.size
    have hbr : b < wr.heap.size := by omega
    clear ho hbw
    by_cases hlt : j < l.length
    · obtain ⟨c0, c1, c2⟩ := HC.out j hlt
      have q0 := (HB.out.cell (p := ⟨b, off + j * 3, none⟩) hb).trans c0
      have q1 := (HB.out.cell (p := ⟨b, off + j * 3 + 1, none⟩) hb).trans c1
      have q2 := (HB.out.cell (p := ⟨b, off + j * 3 + 2, none⟩) hb).trans c2
      clear c0 c1 c2
      have hx := HS.out l[j] (List.getElem_mem hlt)
      have htk := encAllR_take hlt
      have HTK := Lib.hid htk
      have hln : (encAllR (l.take j)).length ≤ 900000 := by
        have h1 := encAllR_len (l := l.take j) (fun y hy => HS.out y (List.mem_of_mem_take hy))
        have h2 : (l.take j).length ≤ 512 := by rw [List.length_take]; omega
        have h3 : (l.take j).length * 1034 ≤ 512 * 1034 := Nat.mul_le_mul_right _ h2
        omega
      clear htk
      generalize l[j] = x at q0 q1 q2 hx HTK
      obtain ⟨k, n, d⟩ := x
      simp only [Sound] at q0 q1 q2 hx
      have hbs := bytesS_len k n d
      have hbs2 : (bytesS k n d).size ≤ 1000000000 := by omega
      have HCK := Lib.hid (bytesR_any k n d wr hx.2.1 hx.2.2.1 hx.1 hx.2.2.2.1 (by omega))
      clear hx hbs
      go_wp2_with (first | (go_at_call 38; refine HCK.out.mono ?_; rintro e w2 ⟨rfl, hb2⟩) | (at_builtin; refine app_str rfl _ _ rfl w.heap.size _ _ _ (bytesS k n d) (own_below HO.out hb2) rfl rfl (by omega) hbs2 (Nat.le_trans hsz hb2.size) ?_; intro v3 w3 ho3 hb3 _))
      go_roundw
      case rel => exact ⟨j + 1, by omega, by go_num, by rw [HTK.out, List.length_append, bv_app, dataI_cells, dataI_len]; exact ho3, (below_aft HB.out hb2).trans hb3⟩
      case measure => simp [intOf]; omega
    · have hjl : j = l.length := by omega
      subst hjl
      go_wp2
      go_ret2
      exact ⟨_, rfl, by have h := HO.out; rwa [List.take_length] at h, HB.out⟩

end Go.Proofs.YtepinmeidjlmmaaDoor
