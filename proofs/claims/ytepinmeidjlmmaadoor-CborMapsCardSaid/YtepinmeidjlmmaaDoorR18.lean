/- Joined: Z5, Z6, M4, M5, M6. -/
import Derived.Test.YtepinmeidjlmmaaDoorR9
import Derived.Test.YtepinmeidjlmmaaDoorR11
import Derived.Test.YtepinmeidjlmmaaDoorR17
import Derived.Deep.AppendLies
import Derived.Test.YtepinmeidjlmmaaDoorR13
import Derived.StillTailTactics
import Derived.BigQuiet
/- The reference's reader, plain: it answers as the program's does. -/
namespace Go.Proofs.YtepinmeidjlmmaaDoor
open Go.RowKit
set_option maxRecDepth 100000

/-- the reference's checks of what is read -/
def contentRE (key : Bool) (bf : ByteArray) (k n : Int) (d : ByteArray) : Int :=
  if k = 4 ∧ Lib.validD d.data.toList = false then 6 else if key = true ∧ bf.toList.isEmpty = false ∧ lessB bf (bytesS k n d) = false then 7 else 0
theorem contentR_same {s : List Lv} {bf : ByteArray} {k n : Int} {d : ByteArray} (hr : KeyRel s bf) (h3 : ¬ (atKeyB s = true ∧ canKeyB k = false)) : contentE s k n d = contentRE (atKeyB s) bf k n d := by
  unfold contentE contentRE
  by_cases h7 : k = 4 ∧ Lib.validD d.data.toList = false
  · rw [if_pos h7, if_pos h7]
  rw [if_neg h7, if_neg h7]
  cases s with
  | nil => simp [atKeyB]
  | cons t r =>
    simp only
    by_cases ha : atKeyB (t :: r) = true
    · obtain ⟨t2, r2, e, hl6, h⟩ := hr ha
      cases e
      have hk6 : k ≤ 6 := by
        cases hck : canKeyB k with
        | false => exact absurd ⟨ha, hck⟩ h3
        | true => simp [canKeyB] at hck; omega
      rcases h with ⟨h0, hb⟩ | ⟨h0, rfl⟩
      · rw [if_neg (by simp [h0]), if_neg (by simp [hb])]
      · have ho := order_same (n1 := t.ln) (d1 := t.ld) (n2 := n) (d2 := d) hl6 hk6
        by_cases hlt : 0 ≤ cmpEnc (encItem t.lk t.ln t.ld) (encItem k n d)
        · rw [if_pos ⟨ha, h0, hlt⟩, if_pos ⟨ha, bytesS_ne _ _ _, ho.1 hlt⟩]
        · rw [if_neg (fun h => hlt h.2.2), if_neg (fun h => hlt (ho.2 h.2.2))]
    · rw [if_neg (fun h => ha h.1), if_neg (fun h => ha h.1)]

def bodyRE (zs : List Int) (N c dep : Nat) (key : Bool) (bf : ByteArray) (a : Nat) (h : Int × Int × Int × Nat) : Int × It × Nat :=
  if h.2.2.1 ≠ 0 then (h.2.2.1, noIt, a)
  else if 512 ≤ c then (8, noIt, a)
  else if key = true ∧ canKeyB h.1 = false then (3, noIt, a)
  else if 8 < dep then (5, noIt, a)
  else if tooLargeB h.1 h.2.1 = true then (8, noIt, a)
  else if hasDataB h.1 = true then
    (if (N : Int) < h.2.2.2 + h.2.1 then (1, noIt, a)
     else if contentRE key bf h.1 0 (strOfNums ((zs.drop h.2.2.2).take h.2.1.toNat)) ≠ 0 then (contentRE key bf h.1 0 (strOfNums ((zs.drop h.2.2.2).take h.2.1.toNat)), noIt, a)
     else (0, ⟨h.1, 0, strOfNums ((zs.drop h.2.2.2).take h.2.1.toNat)⟩, h.2.2.2 + h.2.1.toNat))
  else if contentRE key bf h.1 h.2.1 ⟨#[]⟩ ≠ 0 then (contentRE key bf h.1 h.2.1 ⟨#[]⟩, noIt, a)
  else (0, ⟨h.1, h.2.1, ⟨#[]⟩⟩, h.2.2.2)
def itemRE (zs : List Int) (N c dep : Nat) (key : Bool) (bf : ByteArray) (a : Nat) : Int × It × Nat := bodyRE zs N c dep key bf a (headE zs N a)

theorem itemR_same {zs : List Int} {N c a : Nat} {s : List Lv} {bf : ByteArray} (hz : ∀ z ∈ zs, 0 ≤ z ∧ z ≤ 255) (hl : zs.length = N) (hr : KeyRel s bf) : itemE zs N c s a = itemRE zs N c s.length (atKeyB s) bf a := by
  unfold itemE itemRE
  obtain ⟨k, n, er, a2, hh⟩ : ∃ k n er a2, headE zs N a = (k, n, er, a2) := ⟨_, _, _, _, rfl⟩
  rw [hh]
  unfold bodyE bodyRE
  dsimp only
  by_cases he : er = 0
  · subst he
    obtain ⟨k1, k8, _⟩ := head_ok hz hl hh
    rw [if_neg (show ¬ (0 : Int) ≠ 0 from fun h => h rfl), if_neg (show ¬ (0 : Int) ≠ 0 from fun h => h rfl)]
    unfold placeE
    by_cases h1 : 512 ≤ c
    · simp [h1]
    rw [if_neg h1, if_neg h1]
    rw [if_neg (show ¬ (k < 1 ∨ 8 < k) from by omega)]
    by_cases h3 : atKeyB s = true ∧ canKeyB k = false
    · simp [h3]
    rw [if_neg h3, if_neg h3]
    by_cases h4 : 8 < s.length
    · simp [h4]
    rw [if_neg h4, if_neg h4, if_neg (by simp)]
    simp only [contentR_same hr h3]
  · rw [if_pos he, if_pos he]

theorem itemR_zero {zs : List Int} {N c dep a : Nat} {key : Bool} {bf : ByteArray} {x : It} {a3 : Nat} (h : itemRE zs N c dep key bf a = (0, x, a3)) : c < 512 ∧ dep ≤ 8 ∧ (key = true → canKeyB x.k = true) := by
  unfold itemRE at h
  obtain ⟨k, n, er, a2, hh⟩ : ∃ k n er a2, headE zs N a = (k, n, er, a2) := ⟨_, _, _, _, rfl⟩
  rw [hh] at h
  unfold bodyRE at h
  dsimp only at h
  by_cases he : er = 0
  · subst he
    rw [if_neg (by simp)] at h
    by_cases h1 : 512 ≤ c
    · rw [if_pos h1] at h; simp at h
    rw [if_neg h1] at h
    by_cases h3 : key = true ∧ canKeyB k = false
    · rw [if_pos h3] at h; simp at h
    rw [if_neg h3] at h
    by_cases h4 : 8 < dep
    · rw [if_pos h4] at h; simp at h
    rw [if_neg h4] at h
    refine ⟨by omega, by omega, fun hk => ?_⟩
    have hxk : x.k = k := by
      split at h
      · simp at h
      split at h
      · split at h
        · simp at h
        split at h
        · rename_i h7; simp only [Prod.mk.injEq] at h; exact absurd h.1 h7
        · simp only [Prod.mk.injEq] at h; rw [← h.2.1]
      · split at h
        · rename_i h7; simp only [Prod.mk.injEq] at h; exact absurd h.1 h7
        · simp only [Prod.mk.injEq] at h; rw [← h.2.1]
    rw [hxk]
    cases hck : canKeyB k with
    | true => rfl
    | false => exact absurd ⟨hk, hck⟩ h3
  · rw [if_pos he] at h; simp only [Prod.mk.injEq] at h; exact absurd h.1 he

/-- the reference's loop over the parts of an array or a map: error, place, what has been read -/
def loopRE (W : Nat → List It → Bool → ByteArray → Int × Nat × List It) (mp : Bool) : Nat → Nat → List It → ByteArray → Int × Nat × List It
  | 0, a, xs, _ => (0, a, xs)
  | c + 1, a, xs, last =>
    if mp = true then
      if (W a xs true last).1 ≠ 0 then W a xs true last
      else if (W (W a xs true last).2.1 (W a xs true last).2.2 false ⟨#[]⟩).1 ≠ 0 then W (W a xs true last).2.1 (W a xs true last).2.2 false ⟨#[]⟩
      else loopRE W mp c (W (W a xs true last).2.1 (W a xs true last).2.2 false ⟨#[]⟩).2.1 (W (W a xs true last).2.1 (W a xs true last).2.2 false ⟨#[]⟩).2.2 (lastAt (W a xs true last).2.2 xs.length)
    else
      if (W a xs false ⟨#[]⟩).1 ≠ 0 then W a xs false ⟨#[]⟩ else loopRE W mp c (W a xs false ⟨#[]⟩).2.1 (W a xs false ⟨#[]⟩).2.2 last
/-- the reference's reading of a data item -/
def readE (zs : List Int) (N : Nat) : Nat → Nat → List It → Nat → Bool → ByteArray → Int × Nat × List It
  | 0, a, xs, _, _, _ => (5, a, xs)
  | f + 1, a, xs, dep, key, bf =>
    if (itemRE zs N xs.length dep key bf a).1 ≠ 0 then ((itemRE zs N xs.length dep key bf a).1, a, xs)
    else if (itemRE zs N xs.length dep key bf a).2.1.k = 5 ∨ (itemRE zs N xs.length dep key bf a).2.1.k = 6 then
      loopRE (fun a2 xs2 k2 b2 => readE zs N f a2 xs2 (dep + 1) k2 b2) ((itemRE zs N xs.length dep key bf a).2.1.k == 6) (itemRE zs N xs.length dep key bf a).2.1.n.toNat (itemRE zs N xs.length dep key bf a).2.2 (xs ++ [(itemRE zs N xs.length dep key bf a).2.1]) ⟨#[]⟩
    else (0, (itemRE zs N xs.length dep key bf a).2.2, xs ++ [(itemRE zs N xs.length dep key bf a).2.1])
theorem readE_bad {zs : List Int} {N f a dep : Nat} {xs : List It} {key : Bool} {bf : ByteArray} {er : Int} {x : It} {a3 : Nat} (hi : itemRE zs N xs.length dep key bf a = (er, x, a3)) (he : er ≠ 0) : readE zs N (f + 1) a xs dep key bf = (er, a, xs) := by
  rw [readE, hi]; simp only; rw [if_pos he]
theorem readE_leaf {zs : List Int} {N f a dep : Nat} {xs : List It} {key : Bool} {bf : ByteArray} {x : It} {a3 : Nat} (hi : itemRE zs N xs.length dep key bf a = (0, x, a3)) (hk : ¬ (x.k = 5 ∨ x.k = 6)) : readE zs N (f + 1) a xs dep key bf = (0, a3, xs ++ [x]) := by
  rw [readE, hi]; simp only; rw [if_neg (by simp), if_neg hk]
theorem readE_nest {zs : List Int} {N f a dep : Nat} {xs : List It} {key : Bool} {bf : ByteArray} {x : It} {a3 : Nat} (hi : itemRE zs N xs.length dep key bf a = (0, x, a3)) (hk : x.k = 5 ∨ x.k = 6) :
    readE zs N (f + 1) a xs dep key bf = loopRE (fun a2 xs2 k2 b2 => readE zs N f a2 xs2 (dep + 1) k2 b2) (x.k == 6) x.n.toNat a3 (xs ++ [x]) ⟨#[]⟩ := by
  rw [readE, hi]; simp only; rw [if_neg (by simp), if_pos hk]

theorem loopRE_ok (W : Nat → List It → Bool → ByteArray → Int × Nat × List It) (mp : Bool) (hW : ∀ a xs k b, (W a xs k b).1 = 0 → xs <+: (W a xs k b).2.2 ∧ (W a xs k b).2.2.length ≤ 512) :
    ∀ (c a : Nat) (xs : List It) (last : ByteArray), xs.length ≤ 512 → (loopRE W mp c a xs last).1 = 0 → xs <+: (loopRE W mp c a xs last).2.2 ∧ (loopRE W mp c a xs last).2.2.length ≤ 512 := by
  intro c
  induction c with
  | zero => intro a xs last hx _; exact ⟨List.prefix_refl _, hx⟩
  | succ c ih =>
    intro a xs last hx h
    rw [loopRE] at h ⊢
    cases mp with
    | true =>
      simp only [if_true] at h ⊢
      by_cases h1 : (W a xs true last).1 = 0
      · rw [if_neg (by simp [h1])] at h ⊢
        by_cases h2 : (W (W a xs true last).2.1 (W a xs true last).2.2 false ⟨#[]⟩).1 = 0
        · rw [if_neg (by simp [h2])] at h ⊢
          obtain ⟨p1, _⟩ := hW _ _ _ _ h1
          obtain ⟨p2, l2⟩ := hW _ _ _ _ h2
          obtain ⟨p3, l3⟩ := ih _ _ _ l2 h
          exact ⟨(p1.trans p2).trans p3, l3⟩
        · rw [if_pos h2] at h; exact absurd h h2
      · rw [if_pos h1] at h; exact absurd h h1
    | false =>
      simp only [Bool.false_eq_true, if_false] at h ⊢
      by_cases h1 : (W a xs false ⟨#[]⟩).1 = 0
      · rw [if_neg (by simp [h1])] at h ⊢
        obtain ⟨p1, l1⟩ := hW _ _ _ _ h1
        obtain ⟨p3, l3⟩ := ih _ _ _ l1 h
        exact ⟨p1.trans p3, l3⟩
      · rw [if_pos h1] at h; exact absurd h h1
theorem readE_ok (zs : List Int) (N : Nat) : ∀ (f a dep : Nat) (xs : List It) (key : Bool) (bf : ByteArray), (readE zs N f a xs dep key bf).1 = 0 →
    ∃ x a3, itemRE zs N xs.length dep key bf a = (0, x, a3) ∧ (xs ++ [x]) <+: (readE zs N f a xs dep key bf).2.2 ∧ (readE zs N f a xs dep key bf).2.2.length ≤ 512 := by
  intro f
  induction f with
  | zero => intro a dep xs key bf h; simp [readE] at h
  | succ f ih =>
    intro a dep xs key bf h
    obtain ⟨er, x, a3, hi⟩ : ∃ er x a3, itemRE zs N xs.length dep key bf a = (er, x, a3) := ⟨_, _, _, rfl⟩
    by_cases he : er = 0
    · subst he
      obtain ⟨hc, _, _⟩ := itemR_zero hi
      refine ⟨x, a3, hi, ?_⟩
      by_cases hk : x.k = 5 ∨ x.k = 6
      · rw [readE_nest hi hk] at h ⊢
        refine loopRE_ok _ _ (fun a2 xs2 k2 b2 h2 => ?_) _ _ _ _ (by simp; omega) h
        obtain ⟨y, _, _, p, l⟩ := ih a2 (dep + 1) xs2 k2 b2 h2
        exact ⟨(List.prefix_append xs2 [y]).trans p, l⟩
      · rw [readE_leaf hi hk]
        exact ⟨List.prefix_refl _, by simp; omega⟩
    · rw [readE_bad hi he] at h; exact absurd h he
theorem prefix_at {xs ys : List It} {x : It} (h : (xs ++ [x]) <+: ys) : ys[xs.length]? = some x := by
  obtain ⟨t, rfl⟩ := h
  simp

def finD (zs : List Int) (N : Nat) (s : List Lv) (c : Nat) (r : Int × Nat × List It) : Int × List It × Nat := if r.1 ≠ 0 then (r.1, [], 0) else decGo zs N (600 - r.2.2.length) r.2.2.length (doneAt r.2.2 s c) r.2.1 r.2.2
def finDL (zs : List Int) (N : Nat) (rest : List Lv) (r : Int × Nat × List It) : Int × List It × Nat := if r.1 ≠ 0 then (r.1, [], 0) else decGo zs N (600 - r.2.2.length) r.2.2.length (popAll rest) r.2.1 r.2.2
abbrev SimD (zs : List Int) (N f dep : Nat) : Prop := ∀ (a : Nat) (s : List Lv) (bf : ByteArray) (xs : List It), s.length = dep → compB xs.length s = false → KeyRel s bf → xs.length ≤ 512 →
  decGo zs N (600 - xs.length) xs.length s a xs = finD zs N s xs.length (readE zs N (f + 1) a xs dep (atKeyB s) bf)

theorem loop_arrD (zs : List Int) (N f dep : Nat) (H : SimD zs N f (dep + 1)) :
    ∀ (c a : Nat) (xs : List It) (lv : Lv) (rest : List Lv) (last : ByteArray), xs.length ≤ 512 → lv.mp = false → lv.mi = (c : Int) + 1 → rest.length = dep →
      decGo zs N (600 - xs.length) xs.length (lv :: rest) a xs = finDL zs N rest (loopRE (fun a2 xs2 k2 b2 => readE zs N (f + 1) a2 xs2 (dep + 1) k2 b2) false (c + 1) a xs last) := by
  intro c
  induction c with
  | zero =>
    intro a xs lv rest last hxs hmp hmi hlen
    have hk : atKeyB (lv :: rest) = false := by simp [atKeyB, hmp]
    rw [H a (lv :: rest) ⟨#[]⟩ xs (by simp [hlen]) (by simp [compB]) (fun h => by rw [hk] at h; cases h) hxs, hk]
    by_cases he : (readE zs N (f + 1) a xs (dep + 1) false ⟨#[]⟩).1 = 0
    · obtain ⟨x, _, _, hp, _⟩ := readE_ok zs N _ _ _ _ _ _ he
      simp only [finD, finDL, loopRE, doneAt, prefix_at hp, he]
      rw [keyS_no hk]
      simp [lessS, popAll, Lv.less, hmi]
    · simp [finD, finDL, loopRE, he]
  | succ c ih =>
    intro a xs lv rest last hxs hmp hmi hlen
    have hk : atKeyB (lv :: rest) = false := by simp [atKeyB, hmp]
    rw [H a (lv :: rest) ⟨#[]⟩ xs (by simp [hlen]) (by simp [compB]) (fun h => by rw [hk] at h; cases h) hxs, hk]
    by_cases he : (readE zs N (f + 1) a xs (dep + 1) false ⟨#[]⟩).1 = 0
    · obtain ⟨x, _, _, hp, hl⟩ := readE_ok zs N _ _ _ _ _ _ he
      have e1 : doneAt (readE zs N (f + 1) a xs (dep + 1) false ⟨#[]⟩).2.2 (lv :: rest) xs.length = lv.less :: rest := by
        simp only [doneAt, prefix_at hp]
        rw [keyS_no hk]
        simp only [lessS, popAll, Lv.less, hmi]
        rw [if_neg (by omega)]
      unfold finD
      rw [if_neg (by simp [he]), e1, ih _ _ lv.less rest last hl hmp (by simp only [Lv.less, hmi]; omega) hlen]
      conv => rhs; rw [loopRE]
      simp [he]
    · conv => rhs; rw [loopRE]
      simp [finD, finDL, he]

theorem loop_mapD (zs : List Int) (N f dep : Nat) (H : SimD zs N f (dep + 1)) :
    ∀ (c a : Nat) (xs : List It) (lv : Lv) (rest : List Lv) (last : ByteArray), xs.length ≤ 512 → lv.mp = true → lv.mi = 2 * ((c : Int) + 1) → rest.length = dep → lv.lk ≤ 6 → ((lv.lk = 0 ∧ last.toList.isEmpty = true) ∨ (lv.lk ≠ 0 ∧ last = bytesS lv.lk lv.ln lv.ld)) →
      decGo zs N (600 - xs.length) xs.length (lv :: rest) a xs = finDL zs N rest (loopRE (fun a2 xs2 k2 b2 => readE zs N (f + 1) a2 xs2 (dep + 1) k2 b2) true (c + 1) a xs last) := by
  intro c
  induction c with
  | zero =>
    intro a xs lv rest last hxs hmp hmi hlen hl6 hrel
    have hk : atKeyB (lv :: rest) = true := by simp [atKeyB, hmp, hmi]
    rw [H a (lv :: rest) last xs (by simp [hlen]) (by simp [compB]) (fun _ => ⟨lv, rest, rfl, hl6, hrel⟩) hxs, hk]
    by_cases he : (readE zs N (f + 1) a xs (dep + 1) true last).1 = 0
    · obtain ⟨x, _, _, hp, hl⟩ := readE_ok zs N _ _ _ _ _ _ he
      have e1 : doneAt (readE zs N (f + 1) a xs (dep + 1) true last).2.2 (lv :: rest) xs.length = (lv.key x.k x.n x.d).less :: rest := by
        simp only [doneAt, prefix_at hp]
        rw [keyS_yes hk]
        simp only [lessS, popAll, Lv.less, Lv.key, hmi]
        rw [if_neg (by omega)]
      have hk2 : atKeyB ((lv.key x.k x.n x.d).less :: rest) = false := by simp [atKeyB, Lv.less, Lv.key, hmi]
      unfold finD
      rw [if_neg (by simp [he]), e1]
      generalize hr : readE zs N (f + 1) a xs (dep + 1) true last = r at he hl
      rw [H r.2.1 _ ⟨#[]⟩ r.2.2 (by simp [hlen]) (by simp [compB]) (fun h => by rw [hk2] at h; cases h) hl, hk2]
      by_cases he2 : (readE zs N (f + 1) r.2.1 r.2.2 (dep + 1) false ⟨#[]⟩).1 = 0
      · obtain ⟨y, _, _, hp2, _⟩ := readE_ok zs N _ _ _ _ _ _ he2
        have e3 : doneAt (readE zs N (f + 1) r.2.1 r.2.2 (dep + 1) false ⟨#[]⟩).2.2 ((lv.key x.k x.n x.d).less :: rest) r.2.2.length = popAll rest := by
          simp only [doneAt, prefix_at hp2]
          rw [keyS_no hk2]
          simp only [lessS, popAll, Lv.less, Lv.key, hmi]
          rw [if_pos (by omega)]
        unfold finD
        rw [if_neg (by simp [he2]), e3]
        simp [finDL, loopRE, hr, he, he2]
      · simp [finD, finDL, loopRE, hr, he, he2]
    · simp [finD, finDL, loopRE, he]
  | succ c ih =>
    intro a xs lv rest last hxs hmp hmi hlen hl6 hrel
    have hk : atKeyB (lv :: rest) = true := by simp [atKeyB, hmp, hmi]
    rw [H a (lv :: rest) last xs (by simp [hlen]) (by simp [compB]) (fun _ => ⟨lv, rest, rfl, hl6, hrel⟩) hxs, hk]
    by_cases he : (readE zs N (f + 1) a xs (dep + 1) true last).1 = 0
    · obtain ⟨x, _, hi, hp, hl⟩ := readE_ok zs N _ _ _ _ _ _ he
      have hck := (itemR_zero hi).2.2 rfl
      have hx6 : x.k ≤ 6 ∧ x.k ≠ 0 := by simp [canKeyB] at hck; omega
      have e1 : doneAt (readE zs N (f + 1) a xs (dep + 1) true last).2.2 (lv :: rest) xs.length = (lv.key x.k x.n x.d).less :: rest := by
        simp only [doneAt, prefix_at hp]
        rw [keyS_yes hk]
        simp only [lessS, popAll, Lv.less, Lv.key, hmi]
        rw [if_neg (by omega)]
      have hk2 : atKeyB ((lv.key x.k x.n x.d).less :: rest) = false := by
        have : (2 * ((c : Int) + 1 + 1) - 1) % 2 ≠ 0 := by omega
        simp [atKeyB, Lv.less, Lv.key, hmi]
      unfold finD
      rw [if_neg (by simp [he]), e1]
      have hla : lastAt (readE zs N (f + 1) a xs (dep + 1) true last).2.2 xs.length = bytesS x.k x.n x.d := by simp [lastAt, prefix_at hp]
      generalize hr : readE zs N (f + 1) a xs (dep + 1) true last = r at he hl hla
      rw [H r.2.1 _ ⟨#[]⟩ r.2.2 (by simp [hlen]) (by simp [compB]) (fun h => by rw [hk2] at h; cases h) hl, hk2]
      by_cases he2 : (readE zs N (f + 1) r.2.1 r.2.2 (dep + 1) false ⟨#[]⟩).1 = 0
      · obtain ⟨y, _, _, hp2, hl2⟩ := readE_ok zs N _ _ _ _ _ _ he2
        have e3 : doneAt (readE zs N (f + 1) r.2.1 r.2.2 (dep + 1) false ⟨#[]⟩).2.2 ((lv.key x.k x.n x.d).less :: rest) r.2.2.length = (lv.key x.k x.n x.d).less.less :: rest := by
          simp only [doneAt, prefix_at hp2]
          rw [keyS_no hk2]
          simp only [lessS, popAll, Lv.less, Lv.key, hmi]
          rw [if_neg (by omega)]
        unfold finD
        rw [if_neg (by simp [he2]), e3]
        rw [ih _ _ (lv.key x.k x.n x.d).less.less rest (bytesS x.k x.n x.d) hl2 hmp (by simp only [Lv.less, Lv.key, hmi]; omega) hlen hx6.1 (.inr ⟨hx6.2, rfl⟩)]
        conv => rhs; rw [loopRE]
        simp [hr, he, he2, hla]
      · conv => rhs; rw [loopRE]
        simp [finD, finDL, hr, he, he2]
    · conv => rhs; rw [loopRE]
      simp [finD, finDL, he]

theorem simD {zs : List Int} {N : Nat} (hz : ∀ z ∈ zs, 0 ≤ z ∧ z ≤ 255) (hzl : zs.length = N) : ∀ (f dep : Nat), f + dep = 9 → SimD zs N f dep := by
  intro f
  induction f with
  | zero =>
    intro dep hf a s bf xs hs hc hr hxs
    have hsame := itemR_same (c := xs.length) (a := a) hz hzl hr
    obtain ⟨er, x, a3, hi⟩ : ∃ er x a3, itemE zs N xs.length s a = (er, x, a3) := ⟨_, _, _, rfl⟩
    rw [hi, hs] at hsame
    have hne : er ≠ 0 := by
      intro h
      subst h
      have := (itemR_zero hsame.symm).2.1
      omega
    rw [show 600 - xs.length = (600 - (xs.length + 1)) + 1 from by omega, decGo_bad hc hi hne, readE_bad hsame.symm hne]
    simp [finD, hne]
  | succ f ih =>
    intro dep hf a s bf xs hs hc hr hxs
    have hsame := itemR_same (c := xs.length) (a := a) hz hzl hr
    obtain ⟨er, x, a3, hi⟩ : ∃ er x a3, itemE zs N xs.length s a = (er, x, a3) := ⟨_, _, _, rfl⟩
    rw [hi, hs] at hsame
    have hx := hsame.symm
    rw [show 600 - xs.length = (600 - (xs.length + 1)) + 1 from by omega]
    by_cases hne : er = 0
    · subst hne
      obtain ⟨_, hp0, _, _⟩ := item_ok hz hzl hc hi
      obtain ⟨hc5, _, _⟩ := itemR_zero hx
      have hlen1 : (xs ++ [x]).length = xs.length + 1 := by simp
      rw [decGo_next hc hi, ← hlen1]
      by_cases hk : x.k = 5 ∨ x.k = 6
      · rw [readE_nest hx hk]
        have hlen : (lessS (keyS s x.k x.n x.d)).length = dep := by rw [lessS_len, keyS_len, hs]
        have H := ih (dep + 1) (by omega)
        have hdone : ∀ r : Int × Nat × List It, (r.1 = 0 → r.2.2[xs.length]? = some x) → finD zs N s xs.length r = finDL zs N (lessS (keyS s x.k x.n x.d)) r := by
          intro r h
          unfold finD finDL
          by_cases h0 : r.1 = 0
          · rw [if_neg (by simp [h0]), if_neg (by simp [h0])]
            simp only [doneAt, h h0]
          · rw [if_pos h0, if_pos h0]
        rw [hdone _ (fun h0 => prefix_at (loopRE_ok _ _ (fun a2 xs2 k2 b2 h2 => by
          obtain ⟨y, _, _, p, l⟩ := readE_ok zs N _ a2 (dep + 1) xs2 k2 b2 h2
          exact ⟨(List.prefix_append xs2 [y]).trans p, l⟩) _ _ _ _ (by rw [hlen1]; omega) h0).1)]
        by_cases hn : x.n = 0
        · have hq : ¬ 0 < partsN x.k x.n := by rw [hn]; unfold partsN; split <;> (try split) <;> omega
          rw [enterS, pushed_no hq, hn]
          simp [loopRE, finDL]
        · obtain ⟨c, hcn⟩ : ∃ c : Nat, x.n = (c : Int) + 1 := ⟨x.n.toNat - 1, by omega⟩
          have hp1 : 0 < partsN x.k x.n := by
            unfold partsN
            rcases hk with h | h
            · rw [if_pos h]; omega
            · rw [if_neg (by omega), if_pos h]; omega
          have hN : x.n.toNat = c + 1 := by omega
          rw [hN, enterS, pushed_yes hp1]
          have hpop : popAll (newLv x.k x.n :: lessS (keyS s x.k x.n x.d)) = newLv x.k x.n :: lessS (keyS s x.k x.n x.d) := by
            rw [popAll, if_neg (by show partsN x.k x.n ≠ 0; omega)]
          rw [hpop]
          rcases hk with h | h
          · have e6 : (x.k == 6) = false := by simp [h]
            rw [e6]
            exact loop_arrD zs N f dep H c a3 (xs ++ [x]) (newLv x.k x.n) _ _ (by rw [hlen1]; omega) (by simp [newLv, h]) (by show partsN x.k x.n = _; unfold partsN; rw [if_pos h]; omega) hlen
          · have e6 : (x.k == 6) = true := by simp [h]
            rw [e6]
            exact loop_mapD zs N f dep H c a3 (xs ++ [x]) (newLv x.k x.n) _ _ (by rw [hlen1]; omega) (by simp [newLv, h]) (by show partsN x.k x.n = _; unfold partsN; rw [if_neg (by omega), if_pos h]; omega) hlen (by simp [newLv]) (.inl ⟨rfl, by rw [Lib.toList_data]; rfl⟩)
      · have hq : ¬ 0 < partsN x.k x.n := by unfold partsN; rw [if_neg (fun h => hk (.inl h)), if_neg (fun h => hk (.inr h))]; omega
        rw [readE_leaf hx hk, finD, if_neg (by simp), enterS, pushed_no hq]
        simp [doneAt]
    · rw [decGo_bad hc hi hne, readE_bad hx hne]
      simp [finD, hne]

/-- what the reference's Decode answers: error, items, the place behind them -/
def decR (zs : List Int) (N : Nat) : Int × List It × Nat := if (readE zs N 10 0 [] 0 false ⟨#[]⟩).1 ≠ 0 then ((readE zs N 10 0 [] 0 false ⟨#[]⟩).1, [], 0) else (0, (readE zs N 10 0 [] 0 false ⟨#[]⟩).2.2, (readE zs N 10 0 [] 0 false ⟨#[]⟩).2.1)
theorem dec_same {zs : List Int} {N : Nat} (hz : ∀ z ∈ zs, 0 ≤ z ∧ z ≤ 255) (hzl : zs.length = N) : decE zs N = decR zs N := by
  have h := simD hz hzl 9 0 rfl 0 [] ⟨#[]⟩ [] rfl rfl (fun h => by cases h) (by simp)
  unfold decE decR
  rw [show (600 : Nat) = 600 - ([] : List It).length from rfl, show decGo zs N (600 - ([] : List It).length) 0 [] 0 [] = decGo zs N (600 - ([] : List It).length) ([] : List It).length [] 0 [] from rfl, h, show atKeyB [] = false from rfl]
  by_cases he : (readE zs N 10 0 [] 0 false ⟨#[]⟩).1 = 0
  · obtain ⟨x, _, _, hp, hl⟩ := readE_ok zs N _ _ _ _ _ _ he
    have hd : doneAt (readE zs N 10 0 [] 0 false ⟨#[]⟩).2.2 [] 0 = [] := by
      have := prefix_at hp
      simp only [List.length_nil] at this
      simp [doneAt, this, keyS, lessS, popAll]
    rw [finD, if_neg (by simp [he]), if_neg (by simp [he])]
    simp only [List.length_nil]
    rw [hd]
    generalize readE zs N 10 0 [] 0 false ⟨#[]⟩ = r at *
    have hpos : 0 < r.2.2.length := by have := hp.length_le; simp at this; omega
    rw [show 600 - r.2.2.length = (600 - r.2.2.length - 1) + 1 from by omega]
    exact decGo_done (by simp [compB]; omega)
  · rw [finD, if_pos he, if_pos he]
end Go.Proofs.YtepinmeidjlmmaaDoor

/- The reference's reader: an item; what it stands on. -/
namespace Go.Proofs.YtepinmeidjlmmaaDoor
open Go.RowKit
set_option maxRecDepth 100000

/-- nothing has changed among the blocks below B but block p and the row -/
structure Ri (B p : Nat) (row : Option Nat) (w w' : World) : Prop where
  os : w'.os = w.os
  tape : w'.tape = w.tape
  output : w'.output = w.output
  size : w.heap.size ≤ w'.heap.size
  block : ∀ k, k < B → k ≠ p → some k ≠ row → w'.heap[k]? = w.heap[k]?
theorem Ri.of_rx {B p : Nat} {row : Option Nat} {w w' : World} (h : Rx B p w w') : Ri B p row w w' := ⟨h.os, h.tape, h.output, h.size, fun k hk hne _ => h.block k hk hne⟩
theorem Ri.trans {B B2 p : Nat} {row row2 : Option Nat} {u v w : World} (h : Ri B p row u v) (k : Ri B2 p row2 v w) (hB : B ≤ B2) (hr : ∀ i, row2 = some i → row = some i ∨ B ≤ i) : Ri B p row u w :=
  ⟨k.os.trans h.os, k.tape.trans h.tape, k.output.trans h.output, Nat.le_trans h.size k.size, fun i hi hne hrow => (k.block i (by omega) hne (fun e => by
    rcases hr i e.symm with h1 | h1
    · exact hrow h1.symm
    · omega)).trans (h.block i hi hne hrow)⟩
theorem Ri.below {B p : Nat} {row : Option Nat} {w w' : World} (h : Ri B p row w w') (hp : p ≤ B) (hr : ∀ i, row = some i → p ≤ i) : Below p w w' :=
  ⟨h.os, h.tape, h.output, h.size, fun k hk => h.block k (by omega) (by omega) (fun e => by have := hr k e.symm; omega)⟩

/-- the reader at p, whole: its text, its place, what it has read; the tables -/
structure Rw (w : World) (p : Nat) (S : ByteArray) (a : Nat) (v : Value) (xs : List It) : Prop where
  rr : Rr w p S a v
  own : w.ownsRow (p + 1) 58 3 v xs.length (itCells xs)
  tabs : Tabs w
  p4 : 4 ≤ p
theorem Rw.rowlt {w : World} {p : Nat} {S : ByteArray} {a : Nat} {v : Value} {xs : List It} (h : Rw w p S a v xs) : ∀ i, v.ownBlock = some i → p + 1 ≤ i ∧ i < w.heap.size := h.own.lt
theorem own_keep {w w' : World} {base e size n : Nat} {v : Value} {xs : List Value} (h : w.ownsRow base e size v n xs) (hk : ∀ g, v.ownBlock = some g → w'.heap[g]? = w.heap[g]?) : w'.ownsRow base e size v n xs := by
  refine ⟨h.1, ?_⟩
  rcases h.2 with h0 | ⟨g, cap, cur, hv, hg, hh, hc⟩
  · exact .inl h0
  · exact .inr ⟨g, cap, cur, hv, hg, by rw [hk g (by rw [hv]; rfl), hh], hc⟩
theorem Rw.rx {w w' : World} {p B a a2 : Nat} {S : ByteArray} {v : Value} {xs : List It} (h : Rw w p S a v xs) (hx : Rx B p w w') (hB : w.heap.size ≤ B) (hr : Rr w' p S a2 v) : Rw w' p S a2 v xs :=
  ⟨hr, own_keep h.own (fun g hg => by have := h.rowlt g hg; exact hx.block g (by omega) (by omega)), h.tabs.below (hx.below (by have := h.rr.lt; omega)) h.p4, h.p4⟩
theorem Rw.later {w w' : World} {p a : Nat} {S : ByteArray} {v : Value} {xs : List It} (h : Rw w p S a v xs) (hb : Below w.heap.size w w') : Rw w' p S a v xs :=
  h.rx (Rx.of_below hb) (Nat.le_refl _) (h.rr.below hb h.rr.lt)

/-- what an item answers, and what it leaves -/
def ItP (p : Nat) (S : ByteArray) (v : Value) (r : Int × Nat × List It) (w : World) (e : Ending) (w' : World) : Prop :=
  e = .returned (.int .i64 r.1) ∧ Ri w.heap.size p v.ownBlock w w' ∧ (r.1 = 0 → ∃ v', Rw w' p S r.2.1 v' r.2.2 ∧ ∀ k, v'.ownBlock = some k → v.ownBlock = some k ∨ w.heap.size ≤ k)

/-- behind the head: the item's box at B -/
def Bh (w : World) (p B a : Nat) (S : ByteArray) (v : Value) (xs : List It) (k n : Int) (d : ByteArray) (W : World) : Prop :=
  Rw W p S a v xs ∧ Rx w.heap.size p w W ∧ Box W B k n d ∧ w.heap.size ≤ B ∧ p < w.heap.size ∧ ∀ i, v.ownBlock = some i → i < w.heap.size
theorem bh_new {w w1 : World} {p a a2 : Nat} {S : ByteArray} {v : Value} {xs : List It} {k n : Int} {d : ByteArray} (h : Rw w p S a v xs) (hx : Rx w.heap.size p w w1) (hr : Rr w1 p S a2 v) :
    Bh w p w1.heap.size a2 S v xs k n d (w1.alloc (.cells #[.int .i64 k, .int .u64 n, .string d] 58)) :=
  have hb : Below w1.heap.size w1 (w1.alloc (.cells #[.int .i64 k, .int .u64 n, .string d] 58)) := (Below.refl _ w1).alloc (Nat.le_refl _) _
  ⟨(h.rx hx (Nat.le_refl _) hr).later hb, hx.trans (Rx.of_below (hb.mono hx.size)), Box.new w1 k n d, hx.size, h.rr.lt, fun i hi => (h.rowlt i hi).2⟩

theorem below_far {B g : Nat} (W : World) (hg : B ≤ g) (j : Nat) (u : Value) : Below B W (W.setCell ⟨g, j, none⟩ u) := ⟨rfl, rfl, rfl, by simp [World.setCell], fun k hk => heap_setCell_other W _ k u (by show k ≠ g; omega)⟩
theorem below_dn (B : Nat) (W : World) (m : Nat) : Below B W (W.drewN m) := ⟨rfl, rfl, rfl, Nat.le_refl _, fun _ _ => rfl⟩
theorem Box.set12 {W : World} {B : Nat} {k n0 n : Int} {d0 d : ByteArray} (h : Box W B k n0 d0) : Box ((W.setCell ⟨B, 1, none⟩ (.int .u64 n)).setCell ⟨B, 2, none⟩ (.string d)) B k n d := by
  unfold Box at h ⊢
  simp [World.setCell, Array.getElem?_modify, h, itemCs]
theorem Rw.far {W : World} {p B a : Nat} {S : ByteArray} {v : Value} {xs : List It} (h : Rw W p S a v xs) (hp : p < B) (hr : ∀ i, v.ownBlock = some i → i < B) (j : Nat) (u : Value) : Rw (W.setCell ⟨B, j, none⟩ u) p S a v xs :=
  ⟨h.rr.far (by omega) j u, own_keep h.own (fun g hg => heap_setCell_other W _ g u (by have := hr g hg; show g ≠ B; omega)), h.tabs.below (below_far (B := p) W (by omega) j u) h.p4, h.p4⟩
theorem Rw.set1 {W : World} {p a : Nat} {S : ByteArray} {v : Value} {xs : List It} (h : Rw W p S a v xs) (a2 : Nat) {z : Int} (hz : z = (a2 : Int)) : Rw (W.setCell ⟨p, 1, none⟩ (.int .i64 z)) p S a2 v xs :=
  ⟨h.rr.set1z a2 hz, own_keep h.own (fun g hg => heap_setCell_other W _ g _ (by have := (h.rowlt g hg).1; show g ≠ p; omega)), h.tabs.below (below_far (B := p) W (Nat.le_refl _) _ _) h.p4, h.p4⟩
theorem Rw.drewN {W : World} {p a : Nat} {S : ByteArray} {v : Value} {xs : List It} (h : Rw W p S a v xs) (m : Nat) : Rw (W.drewN m) p S a v xs := h.later (below_dn _ W m)
theorem bh_data {w W : World} {p B a : Nat} {S : ByteArray} {v : Value} {xs : List It} {k n : Int} {d : ByteArray} (h : Bh w p B a S v xs k n d W) (m a2 : Nat) (n2 : Int) (d2 : ByteArray) {z : Int} (hz : z = (a2 : Int)) :
    Bh w p B a2 S v xs k n2 d2 ((((W.drewN m).setCell ⟨B, 1, none⟩ (.int .u64 n2)).setCell ⟨B, 2, none⟩ (.string d2)).setCell ⟨p, 1, none⟩ (.int .i64 z)) := by
  obtain ⟨hR, hX, hb, hB, hp, hr⟩ := h
  have hr' : ∀ i, v.ownBlock = some i → i < B := fun i hi => by have := hr i hi; omega
  refine ⟨(((hR.drewN m).far (by omega) hr' 1 _).far (by omega) hr' 2 _).set1 a2 hz, ?_, ?_, hB, hp, hr⟩
  · exact (((hX.trans (Rx.of_below (below_dn _ W m))).setNew hB 1 _).setNew hB 2 _).set 1 _
  · have h2 := ((hb.drewN m).set12 (n := n2) (d := d2))
    exact h2.far (by omega) 1 _

theorem Bh.later {w W W2 : World} {p B a : Nat} {S : ByteArray} {v : Value} {xs : List It} {k n : Int} {d : ByteArray} (h : Bh w p B a S v xs k n d W) (hb : Below W.heap.size W W2) : Bh w p B a S v xs k n d W2 := by
  obtain ⟨hR, hX, hbx, hB, hp, hr⟩ := h
  exact ⟨hR.later hb, hX.trans (Rx.of_below (hb.mono hX.size)), hbx.keep hb, hB, hp, hr⟩

/-- r.out = append(r.out, x): the step, and the store behind it -/
theorem step_item {ops : Array Oper} {o : Oper} {a : Act} {W : World} {K : Act → World → Prop} {Q : Exit → Act → World → Prop} {E : Prop} (hgd : o.guard = none) (s x : Operand)
    (hop : o.op = .call { callee := .builtin .append, args := #[s, x], argTypes := #[22, 22] })
    {p a2 : Nat} {S : ByteArray} {v : Value} {xs : List It} {k n : Int} {d : ByteArray} (hR : Rw W p S a2 v xs) (hs : a.eval s = v) (B : Nat) (hx : a.eval x = .slice (some ⟨B, 0, none⟩) 1 1)
    (hB : W.heap[B]? = some (.cells #[.int .i64 k, .int .u64 n, .string d] 58 (0, 0))) (hl : xs.length ≤ 1000)
    (h : ∀ g' cap' w', w'.cell? ⟨p, 2, none⟩ = some v → w'.frozen? ⟨p, 2, none⟩ = false → Rw (w'.setCell ⟨p, 2, none⟩ (.slice (some ⟨g', 0, none⟩) (xs.length + 1) cap')) p S a2 (.slice (some ⟨g', 0, none⟩) (xs.length + 1) cap') (xs ++ [⟨k, n, d⟩]) → Ri W.heap.size p v.ownBlock W (w'.setCell ⟨p, 2, none⟩ (.slice (some ⟨g', 0, none⟩) (xs.length + 1) cap')) → (v.ownBlock = some g' ∨ g' = W.heap.size) → K (a.put o.dst (.slice (some ⟨g', 0, none⟩) (xs.length + 1) cap')) w') :
    if Region.wanted o (yielded ops a.tmps) = true then Oper.wp Tryd.prog o a W K Q else E := by
  have hw : Region.wanted o (yielded ops a.tmps) = true := by simp [Region.wanted, hgd]
  rw [if_pos hw]
  obtain ⟨i0, hi, hz0, hz1, hz2⟩ := info_parts info58
  have hpl := hR.rr.lt
  refine wp_append_lies W s x 22 hop (p + 1) 58 i0 _ 3 32 Tryd.underlying22 hi hz0 hz1 hz2 rfl (by decide) v xs.length (itCells xs) hs hR.own ⟨B, 0, none⟩ 1 1 (itCells [⟨k, n, d⟩]) hx rfl ?_ (itCells_one _) (by omega) (by unfold maxLen; omega) (by omega) (by omega) _ rfl ?_
  · intro j u hj
    have e : (⟨B, 0, none⟩ : Addr).add j = ⟨B, j, none⟩ := by unfold Addr.add; split <;> simp_all
    rw [e]
    refine cell_of_block hB ?_
    simpa [itCells] using hj
  intro g' cap' w' ho hg hlies hlt
  have hne : some p ≠ v.ownBlock := fun he => by have := (hR.rowlt p he.symm).1; omega
  have hb := hg.block p hpl hne
  have hRr : Rr w' p S a2 v := hb.trans hR.rr
  rw [← itCells_app] at ho
  have hg' : p + 1 ≤ g' := (ho.lt g' rfl).1
  have hri : Ri W.heap.size p v.ownBlock W (w'.setCell ⟨p, 2, none⟩ (.slice (some ⟨g', 0, none⟩) (xs.length + 1) cap')) :=
    ⟨hg.os, hg.tape, hg.output, by simpa [World.setCell] using hg.size, fun i hi2 hne2 hrow => (heap_setCell_other w' _ i _ hne2).trans (hg.block i hi2 hrow)⟩
  refine h g' cap' w' hRr.c2 (hRr.fz 2) ⟨hRr.set2 _, ?_, hR.tabs.below (hri.below (by omega) (fun i hi2 => by have := (hR.rowlt i hi2).1; omega)) hR.p4, hR.p4⟩ hri hlies
  have hlen : (xs ++ [(⟨k, n, d⟩ : It)]).length = xs.length + 1 := by simp
  rw [hlen]
  exact own_keep ho (fun g hgg => by
    have e : g = g' := by simpa [Value.ownBlock] using hgg.symm
    subst e
    exact heap_setCell_other w' _ g _ (by show g ≠ p; omega))

/-- behind the append -/
theorem it_done {w W W1 W2 : World} {p a g' cap' B : Nat} {S : ByteArray} {v : Value} {xs : List It} {k n : Int} {d : ByteArray} (hb : Bh w p B a S v xs k n d W) (h1 : Below W.heap.size W W1)
    (hR : Rw W2 p S a (.slice (some ⟨g', 0, none⟩) (xs.length + 1) cap') (xs ++ [⟨k, n, d⟩])) (hri : Ri W1.heap.size p v.ownBlock W1 W2) (hl : v.ownBlock = some g' ∨ g' = W1.heap.size) : ItP p S v (0, a, xs ++ [⟨k, n, d⟩]) w (.returned (.int .i64 0)) W2 := by
  obtain ⟨_, hX, _, _, _, _⟩ := hb
  have hs := hX.size
  have hs1 := h1.size
  refine ⟨rfl, (Ri.of_rx (hX.trans (Rx.of_below (h1.mono hs)))).trans hri (by omega) (fun i hi => .inl hi), fun _ => ⟨_, hR, fun i hi => ?_⟩⟩
  have e : i = g' := by simpa [Value.ownBlock] using hi.symm
  subst e
  rcases hl with hl | hl
  · exact .inl hl
  · right; omega

set_option maxHeartbeats 1000000 in
theorem it_head (p : Nat) (S : ByteArray) (a : Nat) (v : Value) (xs : List It) (w : World) (h : Rw w p S a v xs) (hs : S.size ≤ 9000000000000000) (dep : Nat) (key : Bool) (bf : ByteArray) (k n er : Int) (a2 : Nat) (hh : headE (dataI S) S.size a = (k, n, er, a2)) (he : er ≠ 0) :
    Calls Tryd.prog 45 #[.pointer (some ⟨p, 0, none⟩), .int .i64 dep, .bool key, .string bf] w (ItP p S v (er, a, xs) w) := by
  have hC := hdr_any p S a v w h.rr hs
  rw [hh] at hC
  have HC := Lib.hid hC
  clear hC h
  go_enter Tryd.func45, Tryd.ntmps45
  go_wp2_with (go_at_call 67; refine HC.out.mono ?_; rintro e w1 ⟨rfl, hx1, _⟩; have HX1 := Lib.hid hx1; clear hx1)
  go_ret
  refine ⟨rfl, Ri.of_rx (HX1.out.trans (Rx.of_below (((Below.refl _ w1).alloc (Nat.le_refl _) _).mono HX1.out.size))), fun h0 => absurd h0 he⟩

set_option maxHeartbeats 1000000 in
theorem it_512 (p : Nat) (S : ByteArray) (a : Nat) (v : Value) (xs : List It) (w : World) (h : Rw w p S a v xs) (hs : S.size ≤ 9000000000000000) (dep : Nat) (key : Bool) (bf : ByteArray) (k n : Int) (a2 : Nat) (hh : headE (dataI S) S.size a = (k, n, 0, a2)) (hat : 512 ≤ xs.length) :
    Calls Tryd.prog 45 #[.pointer (some ⟨p, 0, none⟩), .int .i64 dep, .bool key, .string bf] w (ItP p S v (8, a, xs) w) := by
  have hC := hdr_any p S a v w h.rr hs
  rw [hh] at hC
  have HC := Lib.hid hC
  have H := Lib.hid h
  obtain ⟨A, cap, rfl⟩ := own_form h.own
  clear hC h
  have hat' : (512 : Int) ≤ (xs.length : Int) := by omega
  go_enter Tryd.func45, Tryd.ntmps45
  go_upto_if 25 with (go_at_call 67; refine HC.out.mono ?_; rintro e w1 ⟨rfl, hx1, hr1⟩; have HB := Lib.hid (bh_new (k := k) (n := n) (d := ⟨#[]⟩) H.out hx1 (hr1 rfl)); clear hx1 hr1)
  refine gen_world (fun W => Bh w p w1.heap.size a2 S (.slice A xs.length cap) xs k n ⟨#[]⟩ W) HB.out ?_
  clear HB HC
  generalize w1.heap.size = B
  rintro W ⟨hR, hX, hbx, hB, hpw, _⟩
  have q2 := hR.rr.c2
  obtain ⟨b0, b1, b2, f0, f1, f2⟩ := hbx.cells
  have HX := Lib.hid hX
  clear hR hX hbx
  go_wp2_with fail
  all_goals go_ret
  all_goals exact ⟨rfl, Ri.of_rx HX.out, fun h0 => by cases h0⟩
end Go.Proofs.YtepinmeidjlmmaaDoor

/- slices.SortFunc over pairs, twelve at most: insertion. -/
namespace Go.Proofs.YtepinmeidjlmmaaDoor
open Go.RowKit
set_option maxRecDepth 100000

set_option maxHeartbeats 400000 in
theorem nan85 (a : Int) (w : World) : Calls Tryd.prog 85 #[.int .u64 a] w fun e w' => e = .returned (.bool false) ∧ w = w' := by
  go_enter Tryd.func85, Tryd.ntmps85
  go_wp2
  go_ret
  exact ⟨rfl, rfl⟩
set_option maxHeartbeats 400000 in
theorem cmp73 (a b : Int) (w : World) : Calls Tryd.prog 73 #[.int .u64 a, .int .u64 b] w fun e w' => e = .returned (.int .i64 (cmpI a b)) ∧ w = w' := by
  go_enter Tryd.func73, Tryd.ntmps73
  go_wp2_with (go_at_call 85; refine (nan85 _ _).mono ?_; rintro e w' ⟨rfl, rfl⟩)
  all_goals go_ret
  · exact ⟨ret_int (cmpI_lt (by assumption)).symm, rfl⟩
  · exact ⟨ret_int (cmpI_gt (by assumption)).symm, rfl⟩
  · exact ⟨ret_int (cmpI_eq (by assumption) (by assumption)).symm, rfl⟩
set_option maxHeartbeats 400000 in
theorem less72 (a b : Int) (va vb : Value) (w : World) : Calls Tryd.prog 72 #[.agg #[.int .u64 a, va], .agg #[.int .u64 b, vb]] w fun e w' => e = .returned (.int .i64 (cmpI a b)) ∧ Below w.heap.size w w' := by
  have hb := ((Below.refl w.heap.size w).alloc (Nat.le_refl _) (.cells #[.int .u64 a, va] 90)).alloc (by simp) (.cells #[.int .u64 b, vb] 90)
  have HB := Lib.hid hb
  clear hb
  go_enter Tryd.func72, Tryd.ntmps72
  go_wp2_with (go_at_call 73; refine (cmp73 _ _ _).mono ?_; rintro e w' ⟨rfl, rfl⟩)
  go_ret
  exact ⟨rfl, HB.out⟩

/-- pairs, each by its number: keys K, values V -/
def pc (K : Nat → Int) (VA : Nat → Option Addr) (VL VC : Nat → Nat) (P : List Nat) : List Value := P.flatMap fun i => [.int .u64 (K i), .slice (VA i) (VL i) (VC i)]
theorem pc_len (K : Nat → Int) (VA : Nat → Option Addr) (VL VC : Nat → Nat) : ∀ P : List Nat, (pc K VA VL VC P).length = P.length * 2
  | [] => rfl
  | x :: r => by
    have := pc_len K VA VL VC r
    simp only [pc, List.flatMap_cons, List.length_append, List.length_cons, List.length_nil] at this ⊢
    omega
theorem pc_app (K : Nat → Int) (VA : Nat → Option Addr) (VL VC : Nat → Nat) (A B : List Nat) : pc K VA VL VC (A ++ B) = pc K VA VL VC A ++ pc K VA VL VC B := by simp [pc]
theorem pc_cons (K : Nat → Int) (VA : Nat → Option Addr) (VL VC : Nat → Nat) (x : Nat) (B : List Nat) : pc K VA VL VC (x :: B) = .int .u64 (K x) :: .slice (VA x) (VL x) (VC x) :: pc K VA VL VC B := by simp [pc]
/-- the pairs lie in block g -/
def PairRow (w : World) (g : Nat) (K : Nat → Int) (VA : Nat → Option Addr) (VL VC : Nat → Nat) (P : List Nat) : Prop := w.heap[g]? = some (.cells (pc K VA VL VC P).toArray 90 (0, 0))
theorem PairRow.at_ {w : World} {g : Nat} {K : Nat → Int} {VA : Nat → Option Addr} {VL VC : Nat → Nat} {A B : List Nat} {x j : Nat} (h : PairRow w g K VA VL VC (A ++ x :: B)) (hj : A.length = j) : w.cell? ⟨g, j * 2, none⟩ = some (.int .u64 (K x)) ∧ w.cell? ⟨g, j * 2 + 1, none⟩ = some (.slice (VA x) (VL x) (VC x)) := by
  have hl : (pc K VA VL VC A).length = j * 2 := by rw [pc_len, hj]
  unfold PairRow at h
  rw [pc_app, pc_cons] at h
  refine ⟨?_, ?_⟩
  · simp only [World.cell?, h]
    simp [hl]
  · simp only [World.cell?, h]
    simp [hl]
theorem PairRow.fr {w : World} {g : Nat} {K : Nat → Int} {VA : Nat → Option Addr} {VL VC : Nat → Nat} {P : List Nat} (h : PairRow w g K VA VL VC P) (i : Nat) : w.frozen? ⟨g, i, none⟩ = false := by unfold PairRow at h; simp [World.frozen?, h]
theorem PairRow.swap {w : World} {g : Nat} {K : Nat → Int} {VA : Nat → Option Addr} {VL VC : Nat → Nat} {A B : List Nat} {x y j : Nat} (h : PairRow w g K VA VL VC (A ++ x :: y :: B)) (hj : A.length = j) :
    PairRow ((((w.setCell ⟨g, (j + 1) * 2, none⟩ (.int .u64 (K x))).setCell ⟨g, (j + 1) * 2 + 1, none⟩ (.slice (VA x) (VL x) (VC x))).setCell ⟨g, j * 2, none⟩ (.int .u64 (K y))).setCell ⟨g, j * 2 + 1, none⟩ (.slice (VA y) (VL y) (VC y))) g K VA VL VC (A ++ y :: x :: B) := by
  have hl : (pc K VA VL VC A).length = j * 2 := by rw [pc_len, hj]
  unfold PairRow at h ⊢
  have h1 := heap_setCell_same w g ((j + 1) * 2) _ 90 (.int .u64 (K x)) h
  have h2 := heap_setCell_same _ g ((j + 1) * 2 + 1) _ 90 (.slice (VA x) (VL x) (VC x)) h1
  have h3 := heap_setCell_same _ g (j * 2) _ 90 (.int .u64 (K y)) h2
  have h4 := heap_setCell_same _ g (j * 2 + 1) _ 90 (.slice (VA y) (VL y) (VC y)) h3
  rw [h4]
  refine congrArg some (congrArg (fun c => Obj.cells c 90 (0, 0)) ?_)
  apply Array.ext'
  rw [Array.toList_setIfInBounds, Array.toList_setIfInBounds, Array.toList_setIfInBounds, Array.toList_setIfInBounds, pc_app, pc_cons, pc_cons, pc_app, pc_cons, pc_cons]
  show ((((pc K VA VL VC A ++ _).set _ _).set _ _).set _ _).set _ _ = pc K VA VL VC A ++ _
  rw [List.set_append_right _ _ (by rw [hl]; omega), List.set_append_right _ _ (by rw [hl]; omega), List.set_append_right _ _ (by rw [hl]; omega), List.set_append_right _ _ (by rw [hl]; omega), hl,
    show (j + 1) * 2 - j * 2 = 2 from by omega, show (j + 1) * 2 + 1 - j * 2 = 3 from by omega, show j * 2 - j * 2 = 0 from by omega, show j * 2 + 1 - j * 2 = 1 from by omega]
  rfl

/-- in ascending order of the keys -/
def Asc (K : Nat → Int) (P : List Nat) : Prop := P.Pairwise fun a b => K a ≤ K b
theorem Asc.snoc {K : Nat → Int} {A : List Nat} {x : Nat} (h : Asc K (A ++ [x])) : ∀ a ∈ A, K a ≤ K x := by
  unfold Asc at h
  rw [List.pairwise_append] at h
  exact fun a ha => h.2.2 a ha x (by simp)

end Go.Proofs.YtepinmeidjlmmaaDoor

/- slices.SortFunc over pairs, twelve at most: insertion, walked. -/
namespace Go.Proofs.YtepinmeidjlmmaaDoor
open Go.RowKit
set_option maxRecDepth 100000

theorem PairRow.below {w w' : World} {g : Nat} {K : Nat → Int} {VA : Nat → Option Addr} {VL VC : Nat → Nat} {P : List Nat} (h : PairRow w g K VA VL VC P) (hb : Below w.heap.size w w') : PairRow w' g K VA VL VC P := (hb.block g (lt_of_heap h)).trans h
theorem Ri.below' {B p : Nat} {row : Option Nat} {u v w : World} (h : Ri B p row u v) (hB : B ≤ v.heap.size) (hb : Below v.heap.size v w) : Ri B p row u w :=
  ⟨hb.os.trans h.os, hb.tape.trans h.tape, hb.output.trans h.output, Nat.le_trans h.size hb.size, fun i hi hne hrow => (hb.block i (by omega)).trans (h.block i hi hne hrow)⟩
theorem Ri.set {B p : Nat} {row : Option Nat} {u w : World} (h : Ri B p row u w) (i : Nat) (v : Value) : Ri B p row u (w.setCell ⟨p, i, none⟩ v) :=
  ⟨h.os, h.tape, h.output, by simpa [World.setCell] using h.size, fun k hk hne hrow => (heap_setCell_other w _ k v hne).trans (h.block k hk hne hrow)⟩
theorem asc_in {K : Nat → Int} {A C : List Nat} {x : Nat} (h : Asc K (A ++ C)) (h1 : ∀ a ∈ A, K a ≤ K x) (h2 : ∀ c ∈ C, K x ≤ K c) : Asc K (A ++ x :: C) := by
  unfold Asc at h ⊢
  rw [List.pairwise_append] at h ⊢
  refine ⟨h.1, List.pairwise_cons.2 ⟨h2, h.2.1⟩, fun a ha c hc => ?_⟩
  rcases List.mem_cons.1 hc with rfl | hc
  · exact h1 a ha
  · exact h.2.2 a ha c hc

set_option maxHeartbeats 4000000 in
theorem insertion_any (g cap n : Nat) (K : Nat → Int) (VA : Nat → Option Addr) (VL VC : Nat → Nat) (P : List Nat) (w : World) (h : PairRow w g K VA VL VC P) (hn : P.length = n) (h12 : n ≤ 12) :
    Calls Tryd.prog 92 #[.slice (some ⟨g, 0, none⟩) n cap, .int .i64 0, .int .i64 n, .func (.func 72) #[] #[]] w fun e w' => e = .returned (.tuple #[]) ∧ ∃ P', P'.Perm P ∧ Asc K P' ∧ PairRow w' g K VA VL VC P' ∧ Ri w.heap.size g none w w' := by
  have H := Lib.hid h
  have hgw := lt_of_heap h
  clear h
  go_enter Tryd.func92, Tryd.ntmps92
  go_wp2_with fail
  go_loopw [8] (fun i wr => ∃ (j : Nat) (A D : List Nat), 1 ≤ j ∧ j ≤ 13 ∧ i = .int .i64 j ∧ A.length = min j n ∧ Asc K A ∧ (A ++ D).Perm P ∧ PairRow wr g K VA VL VC (A ++ D) ∧ Ri w.heap.size g none w wr) (fun i _ => 13 - (intOf i).toNat)
  case atStart =>
    refine ⟨1, P.take 1, P.drop 1, by omega, by omega, rfl, by rw [List.length_take, hn], ?_, by rw [List.take_append_drop], by rw [List.take_append_drop]; exact H.out, Ri.of_rx (Rx.refl _ _ _)⟩
    unfold Asc
    match P with
    | [] => simp
    | [a] => simp
    | a :: b :: r => simp
  case round =>
    obtain ⟨i, A, D, hi1, hi13, rfl, hAl, hAs, hPm, hRow, hRi⟩ := hrel
    have HR := Lib.hid hRow
    have HI := Lib.hid hRi
    have HP := Lib.hid hPm
    have HA := Lib.hid hAs
    have HL := Lib.hid hAl
    clear hRow hRi hPm hAs hAl
    by_cases hlt : i < n
    · have hltI : (i : Int) < (n : Int) := by omega
      go_wp2_with fail
      go_loopw [9] (fun jv wq => ∃ (j : Nat) (A C E : List Nat) (x : Nat), jv = .int .i64 j ∧ A.length = j ∧ j + C.length = i ∧ Asc K (A ++ C) ∧ (∀ c ∈ C, K x ≤ K c) ∧ (A ++ x :: (C ++ E)).Perm P ∧ PairRow wq g K VA VL VC (A ++ x :: (C ++ E)) ∧ Ri w.heap.size g none w wq) (fun jv _ => (intOf jv).toNat)
      case atStart =>
        have hAn : A.length = i := by have := HL.out; omega
        have hlen := HP.out.length_eq
        rw [List.length_append] at hlen
        obtain ⟨x, E, rfl⟩ : ∃ x E, D = x :: E := by
          cases D with
          | nil => simp at hlen; omega
          | cons x E => exact ⟨x, E, rfl⟩
        exact ⟨i, A, [], E, x, rfl, hAn, by simp, by simpa using HA.out, by simp, HP.out, HR.out, HI.out⟩
      case round =>
        obtain ⟨j, A, C, E, x, rfl, hAj, hCj, hAs, hC, hPm, hRow, hRi⟩ := hrel
        have HR2 := Lib.hid hRow
        have HI2 := Lib.hid hRi
        have HP2 := Lib.hid hPm
        have HA2 := Lib.hid hAs
        have HC2 := Lib.hid hC
        have hgr := lt_of_heap hRow
        have hsz := hRi.size
        clear hRow hRi hPm hAs hC
        cases j with
        | zero =>
          go_wp2_with fail
          go_quiet (fail)
          go_wp2_with fail
          obtain rfl : A = [] := List.eq_nil_of_length_eq_zero hAj
          refine ⟨⟨i + 1, x :: C, E, by omega, by omega, by go_num, by simp; omega, ?_, by simpa using HP2.out, ?_, HI2.out.below' hsz (below_dn _ _ _)⟩, by simp [intOf]; omega⟩
          · exact asc_in (A := []) HA2.out (by simp) HC2.out
          · exact (PairRow.below (by simpa using HR2.out) (below_dn _ _ _))
        | succ j =>
          have hAn : A ≠ [] := fun e => by rw [e] at hAj; cases hAj
          obtain ⟨A', y, rfl⟩ : ∃ A' y, A = A' ++ [y] := ⟨_, _, (List.dropLast_concat_getLast hAn).symm⟩
          have hAj' : A'.length = j := by simpa using hAj
          have hRy : PairRow wr g K VA VL VC (A' ++ y :: x :: (C ++ E)) := by simpa using HR2.out
          have HRY := Lib.hid hRy
          obtain ⟨y0, y1⟩ := hRy.at_ hAj'
          obtain ⟨x0, x1⟩ := PairRow.at_ (A := A' ++ [y]) (x := x) (B := C ++ E) HR2.out hAj
          have hj1 : (0 : Int) < (j : Int) + 1 := by omega
          have hj0 : (0 : Int) ≤ (j : Int) + 1 := by omega
          have hjt : ((j : Int) + 1).toNat = j + 1 := by omega
          have hj2 : (j : Int) + 1 < (n : Int) := by omega
          have hj3 : (0 : Int) ≤ (j : Int) := by omega
          have hjw : IntKind.i64.wrap (j : Int) = (j : Int) := by rw [IntKind.wrap_i64]; omega
          have hj4 : (j : Int) < (n : Int) := by omega
          clear hRy
          by_cases hxy : K x < K y
          · have HCM := Lib.hid (cmpI_lt hxy)
            have HXY := Lib.hid hxy
            clear hxy
            go_wp2_with fail
            go_still_tail 14, (by kernel_rfl)
            change wpList _ _ _ _ _ (World.drew _)
            go_wp2_with fail
            refine (less72 (K x) (K y) (.slice (VA x) (VL x) (VC x)) (.slice (VA y) (VL y) (VC y)) _).mono ?_
            rw [HCM.out]
            rintro e w1 ⟨rfl, hb1⟩
            have hRd : PairRow w1 g K VA VL VC (A' ++ y :: x :: (C ++ E)) := PairRow.below HRY.out ((Below.refl _ _).drew.trans hb1)
            have HID := Lib.hid (HI2.out.below' hsz ((Below.refl _ _).drew.trans hb1))
            have HRD := Lib.hid hRd
            clear x0 x1 y0 y1
            obtain ⟨y0, y1⟩ := hRd.at_ hAj'
            obtain ⟨x0, x1⟩ := PairRow.at_ (A := A' ++ [y]) (x := x) (B := C ++ E) (by simpa using HRD.out) hAj
            have f0 := hRd.fr (j * 2)
            have f1 := hRd.fr (j * 2 + 1)
            have f2 := hRd.fr ((j + 1) * 2)
            have f3 := hRd.fr ((j + 1) * 2 + 1)
            have z1 : (w1.setCell ⟨g, (j + 1) * 2, none⟩ (.int .u64 (K y))).cell? ⟨g, (j + 1) * 2 + 1, none⟩ = some (.slice (VA x) (VL x) (VC x)) := by
              rw [World.cell?_setCell_other _ _ _ _ (by simp)]; exact x1
            have z2 : ((w1.setCell ⟨g, (j + 1) * 2, none⟩ (.int .u64 (K y))).setCell ⟨g, (j + 1) * 2 + 1, none⟩ (.slice (VA y) (VL y) (VC y))).cell? ⟨g, j * 2, none⟩ = some (.int .u64 (K y)) := by
              rw [World.cell?_setCell_other _ _ _ _ (by simp), World.cell?_setCell_other _ _ _ _ (by simp)]; exact y0
            have z3 : (((w1.setCell ⟨g, (j + 1) * 2, none⟩ (.int .u64 (K y))).setCell ⟨g, (j + 1) * 2 + 1, none⟩ (.slice (VA y) (VL y) (VC y))).setCell ⟨g, j * 2, none⟩ (.int .u64 (K x))).cell? ⟨g, j * 2 + 1, none⟩ = some (.slice (VA y) (VL y) (VC y)) := by
              rw [World.cell?_setCell_other _ _ _ _ (by simp), World.cell?_setCell_other _ _ _ _ (by simp), World.cell?_setCell_other _ _ _ _ (by simp)]; exact y1
            clear hRd hb1
            go_wp2_with fail
            go_region
            go_wp2_with fail
            go_roundw
            case rel =>
              refine ⟨j, A', y :: C, E, x, by go_num, hAj', by simp; omega, ?_, ?_, ?_, ?_, ?_⟩
              · simpa using HA2.out
              · intro c hc
                rcases List.mem_cons.1 hc with rfl | hc
                · exact Int.le_of_lt HXY.out
                · exact HC2.out c hc
              · refine (List.Perm.append_left A' (List.Perm.swap y x (C ++ E))).trans ?_
                simpa using HP2.out
              · exact PairRow.below (HRD.out.swap hAj') (Below.refl _ _).drew
              · exact ((((HID.out.set _ _).set _ _).set _ _).set _ _).below' (by have := HID.out.size; simp [World.setCell]; omega) (Below.refl _ _).drew
            case measure => simp [intOf]
          · obtain ⟨c0, hc0, hc1⟩ : ∃ c0, cmpI (K x) (K y) = c0 ∧ ¬ c0 < 0 := ⟨_, rfl, by unfold cmpI; rw [if_neg hxy]; split <;> decide⟩
            have HCM := Lib.hid hc0
            have HXY := Lib.hid (show K y ≤ K x from by omega)
            clear hxy hc0
            go_wp2_with fail
            go_still_tail 14, (by kernel_rfl)
            change wpList _ _ _ _ _ (World.drew _)
            go_wp2_with fail
            refine (less72 (K x) (K y) (.slice (VA x) (VL x) (VC x)) (.slice (VA y) (VL y) (VC y)) _).mono ?_
            rw [HCM.out]
            rintro e w1 ⟨rfl, hb1⟩
            have HRD := Lib.hid (PairRow.below HRY.out ((Below.refl _ _).drew.trans hb1))
            have HID := Lib.hid (HI2.out.below' hsz ((Below.refl _ _).drew.trans hb1))
            clear x0 x1 y0 y1 hb1
            go_wp2_with fail
            refine ⟨⟨i + 1, A' ++ [y] ++ x :: C, E, by omega, by omega, by go_num, by simp; omega, ?_, by simpa using HP2.out, by simpa using HRD.out, HID.out⟩, by simp [intOf]; omega⟩
            refine asc_in HA2.out (fun a ha => ?_) HC2.out
            rcases List.mem_append.1 ha with ha | ha
            · have hay : Asc K (A' ++ [y]) := by
                have := HA2.out
                unfold Asc at this ⊢
                rw [List.pairwise_append] at this
                exact this.1
              exact Int.le_trans (hay.snoc a ha) HXY.out
            · rw [List.mem_singleton.1 ha]; exact HXY.out
    · have hge : ¬ (i : Int) < (n : Int) := by omega
      go_wp2
      go_end0
      have hAn : A.length = n := by have := HL.out; omega
      have hlen := HP.out.length_eq
      rw [List.length_append] at hlen
      obtain rfl : D = [] := List.eq_nil_of_length_eq_zero (by omega)
      exact ⟨rfl, A, by simpa using HP.out, HA.out, by simpa using HR.out, HI.out⟩
end Go.Proofs.YtepinmeidjlmmaaDoor

/- slices.SortFunc over pairs, twelve at most; sortedPairs. -/
namespace Go.Proofs.YtepinmeidjlmmaaDoor
open Go.RowKit
set_option maxRecDepth 100000

/-- what sorting leaves -/
def SortP (g : Nat) (K : Nat → Int) (VA : Nat → Option Addr) (VL VC : Nat → Nat) (P : List Nat) (w : World) (e : Ending) (w' : World) : Prop :=
  e = .returned (.tuple #[]) ∧ ∃ P', P'.Perm P ∧ Asc K P' ∧ PairRow w' g K VA VL VC P' ∧ Ri w.heap.size g none w w'

set_option maxHeartbeats 1000000 in
theorem lenN (n : Nat) (hn : n ≤ 12) (w : World) : Calls Tryd.prog 84 #[.int .u64 n] w fun e w' => (∃ l, e = .returned (.int .i64 l)) ∧ w = w' := by
  have h : n = 0 ∨ n = 1 ∨ n = 2 ∨ n = 3 ∨ n = 4 ∨ n = 5 ∨ n = 6 ∨ n = 7 ∨ n = 8 ∨ n = 9 ∨ n = 10 ∨ n = 11 ∨ n = 12 := by omega
  rcases h with rfl | rfl | rfl | rfl | rfl | rfl | rfl | rfl | rfl | rfl | rfl | rfl | rfl
  all_goals
    go_enter Tryd.func84, Tryd.ntmps84
    go_wp2
    go_ret
    exact ⟨⟨_, rfl⟩, rfl⟩
set_option maxHeartbeats 1000000 in
theorem pdqN (g cap n : Nat) (K : Nat → Int) (VA : Nat → Option Addr) (VL VC : Nat → Nat) (P : List Nat) (l : Int) (w : World) (h : PairRow w g K VA VL VC P) (hn : P.length = n) (h12 : n ≤ 12) :
    Calls Tryd.prog 83 #[.slice (some ⟨g, 0, none⟩) n cap, .int .i64 0, .int .i64 n, .int .i64 l, .func (.func 72) #[] #[]] w (SortP g K VA VL VC P w) := by
  have HC := Lib.hid (insertion_any g cap n K VA VL VC P w h hn h12)
  have hn' : (n : Int) ≤ 12 := by omega
  clear h
  go_enter Tryd.func83, Tryd.ntmps83
  go_wp2_with fail
  refine wp_loop_rounds 1 ?_
  rw [rounds_succ]
  go_wp2_with (go_at_call 92; refine HC.out.mono ?_; rintro e w' ⟨rfl, hP⟩)
  refine bodyPost_ret (results_none rfl _ _ _) rfl ?_
  exact ⟨rfl, hP⟩
set_option maxHeartbeats 1000000 in
theorem sortN (g cap n : Nat) (K : Nat → Int) (VA : Nat → Option Addr) (VL VC : Nat → Nat) (P : List Nat) (w : World) (h : PairRow w g K VA VL VC P) (hn : P.length = n) (h12 : n ≤ 12) :
    Calls Tryd.prog 71 #[.slice (some ⟨g, 0, none⟩) n cap, .func (.func 72) #[] #[]] w (SortP g K VA VL VC P w) := by
  have HC := Lib.hid (fun l => pdqN g cap n K VA VL VC P l w h hn h12)
  clear h
  go_enter Tryd.func71, Tryd.ntmps71
  go_wp2_with (first | (go_at_call 84; refine (lenN _ h12 _).mono ?_; rintro e w' ⟨⟨l, rfl⟩, rfl⟩) | (go_at_call 83; refine (HC.out _).mono ?_; rintro e w' ⟨rfl, hP⟩))
  go_end0
  exact ⟨rfl, hP⟩
end Go.Proofs.YtepinmeidjlmmaaDoor
