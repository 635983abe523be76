/- Joined: G1, T1, T2, T3, T4, T5. -/
import Derived.Test.YtepinmeidjlmmaaDoorR11
import Derived.Test.YtepinmeidjlmmaaDoorR3
import Derived.Deep.QuietTactic
namespace Go.Proofs.YtepinmeidjlmmaaDoor
open Go.RowKit

def deepL (j : Nat) : List It := List.replicate j ⟨5, 1, ⟨#[]⟩⟩
def wideL (k j : Nat) : List It := ⟨5, k, ⟨#[]⟩⟩ :: List.replicate j ⟨8, 0, ⟨#[]⟩⟩
theorem deepL_succ (j : Nat) : deepL (j + 1) = deepL j ++ [⟨5, 1, ⟨#[]⟩⟩] := by rw [deepL, List.replicate_succ']; rfl
theorem wideL_succ (k j : Nat) : wideL k (j + 1) = wideL k j ++ [⟨8, 0, ⟨#[]⟩⟩] := by rw [wideL, List.replicate_succ']; rfl

theorem lit_items (w : World) (k n : Int) (hn : 0 ≤ n) : ItemsAt (w.alloc (.cells #[.int .i64 k, .int .u64 n, .string ⟨#[]⟩] 58)) (w.heap.size + 1) (.slice (some ⟨w.heap.size, 0, none⟩) 1 1) [⟨k, n, ⟨#[]⟩⟩] :=
  itemsAt_one (Nat.lt_succ_self _) (heap_new w _) hn (Nat.zero_le _)

theorem below_lit {w wr w2 : World} {o : Obj} (h1 : Below w.heap.size w wr) (h2 : Below w.heap.size (wr.alloc o) w2) : Below w.heap.size w w2 := (h1.alloc h1.size _).trans h2

theorem deep_all : ((List.range 12).all fun J => decide (J ≤ 8) == (validE (deepL J ++ [⟨8, 0, ⟨#[]⟩⟩]) == 0)) = true := by decide +kernel
theorem wide_all : ((List.range 20).all fun K => decide (500 + K < 512) == (validE (wideL (500 + K) (500 + K)) == 0)) = true := by decide +kernel
theorem deep_is {J : Nat} (h : J < 12) : (J ≤ 8) ↔ validE (deepL J ++ [⟨8, 0, ⟨#[]⟩⟩]) = 0 := by
  have e : decide (J ≤ 8) = (validE (deepL J ++ [⟨8, 0, ⟨#[]⟩⟩]) == 0) := by simpa using List.all_eq_true.1 deep_all J (List.mem_range.2 h)
  rw [← decide_eq_true_iff (p := J ≤ 8), e, beq_iff_eq]
theorem wide_is {K : Nat} (h0 : 500 ≤ K) (h : K < 520) : (K < 512) ↔ validE (wideL K K) = 0 := by
  have := List.all_eq_true.1 wide_all (K - 500) (List.mem_range.2 (by omega))
  rw [show 500 + (K - 500) = K from by omega] at this
  have e : decide (K < 512) = (validE (wideL K K) == 0) := by simpa using this
  rw [← decide_eq_true_iff (p := K < 512), e, beq_iff_eq]

end Go.Proofs.YtepinmeidjlmmaaDoor

/- Numbers for a tree: At and Text. -/
namespace Go.Proofs.YtepinmeidjlmmaaDoor
open Go.RowKit
set_option maxRecDepth 100000

theorem bits_low (i : Nat) (hi : i ≤ 62) (x : Int) : bits .and .i64 x (2 ^ i - 1) = x % 2 ^ i := by
  have hpos : 0 < 2 ^ i := Nat.two_pow_pos i
  have hle : 2 ^ i ≤ 2 ^ 62 := Nat.pow_le_pow_right (by decide) hi
  obtain ⟨a, ha⟩ := Int.eq_ofNat_of_zero_le (Int.emod_nonneg x (b := 18446744073709551616) (by decide))
  have hc : ((2 : Int) ^ i - 1) = ((2 ^ i - 1 : Nat) : Int) := by
    rw [Int.natCast_sub hpos]; simp
  have hx : BitVec.ofInt 64 x = BitVec.ofNat 64 a := by
    apply BitVec.eq_of_toNat_eq
    rw [BitVec.toNat_ofInt, BitVec.toNat_ofNat]
    have h2 : x % ((2 ^ 64 : Nat) : Int) = (a : Int) := ha
    rw [h2]
    have : a < 2 ^ 64 := by omega
    rw [Nat.mod_eq_of_lt this]
    simp
  have hd : x % 2 ^ i = ((a % 2 ^ i : Nat) : Int) := by
    have h1 : x % 18446744073709551616 % ((2 ^ i : Nat) : Int) = x % ((2 ^ i : Nat) : Int) := by
      apply Int.emod_emod_of_dvd
      have : (18446744073709551616 : Int) = ((2 ^ 64 : Nat) : Int) := by decide
      rw [this]
      exact_mod_cast Nat.pow_dvd_pow 2 (show i ≤ 64 by omega)
    rw [ha] at h1
    have e : ((2 ^ i : Nat) : Int) = (2 : Int) ^ i := by simp
    rw [e] at h1
    rw [← h1, ← e]
    norm_cast
  have h64 : (2 ^ i - 1) % 2 ^ 64 = 2 ^ i - 1 := Nat.mod_eq_of_lt (by omega)
  have ha64 : a % 2 ^ 64 = a := Nat.mod_eq_of_lt (by omega)
  show IntKind.i64.wrap ((BitVec.ofInt 64 x &&& BitVec.ofInt 64 (2 ^ i - 1)).toNat : Int) = _
  rw [hx, hc, BitVec.ofInt_natCast, BitVec.toNat_and, BitVec.toNat_ofNat, BitVec.toNat_ofNat, h64, ha64, Nat.and_two_pow_sub_one_eq_mod, hd, IntKind.wrap_i64]
  have : a % 2 ^ i < 2 ^ i := Nat.mod_lt _ hpos
  omega
@[go_sem] theorem and1_ (x : Int) : bits .and .i64 x 1 = x % 2 := bits_low 1 (by decide) x
@[go_sem] theorem and3_ (x : Int) : bits .and .i64 x 3 = x % 4 := bits_low 2 (by decide) x
@[go_sem] theorem and7_ (x : Int) : bits .and .i64 x 7 = x % 8 := bits_low 3 (by decide) x
@[go_sem] theorem and31_ (x : Int) : bits .and .i64 x 31 = x % 32 := bits_low 5 (by decide) x
@[go_sem] theorem and63_ (x : Int) : bits .and .i64 x 63 = x % 64 := bits_low 6 (by decide) x
@[go_sem] theorem and65535_ (x : Int) : bits .and .i64 x 65535 = x % 65536 := bits_low 16 (by decide) x

/-- a slice value that holds the numbers l -/
structure Ints (w : World) (A : Option Addr) (n : Nat) (l : List Int) : Prop where
  len : l.length = n
  at_ : ∀ i, i < n → ∃ a, A = some a ∧ w.cell? (a.add i) = some (.int .i64 (l.getD i 0))
theorem cellIn {w : World} {a : Addr} {v : Value} (h : w.cell? a = some v) : a.block < w.heap.size := by
  rcases Nat.lt_or_ge a.block w.heap.size with h1 | h1
  · exact h1
  · unfold World.cell? at h
    simp [Array.getElem?_eq_none h1] at h
theorem Ints.below {w w' : World} {A : Option Addr} {n : Nat} {l : List Int} (h : Ints w A n l) (hb : Below w.heap.size w w') : Ints w' A n l :=
  ⟨h.len, fun i hi => by
    obtain ⟨a, e, hc⟩ := h.at_ i hi
    exact ⟨a, e, (hb.cell (cellIn hc)).trans hc⟩⟩

def atI (l : List Int) (i : Nat) : Nat := if l.length = 0 then i else (l.getD (i % l.length) 0 % 65536).toNat + i / l.length

theorem atI_lt (l : List Int) (i : Nat) (h : i ≤ 1000) : atI l i < 70000 := by
  unfold atI
  split
  · omega
  · have := Int.emod_lt_of_pos (l.getD (i % l.length) 0) (show (0 : Int) < 65536 by decide)
    have := Int.emod_nonneg (l.getD (i % l.length) 0) (show (65536 : Int) ≠ 0 by decide)
    have := Nat.div_le_self i l.length
    omega

set_option maxHeartbeats 1000000 in
theorem at_any (A : Option Addr) (n cap : Nat) (l : List Int) (i : Nat) (w : World) (h : Ints w A n l) (hi : i ≤ 1000) (hn : n ≤ 9223372036854775807) :
    Calls Tryd.prog 62 #[.slice A n cap, .int .i64 i] w fun e w' => e = .returned (.int .i64 (atI l i)) ∧ Below w.heap.size w w' := by
  have hl := h.len
  rcases Nat.eq_zero_or_pos n with h0 | h0
  · subst h0
    have e : atI l i = i := by rw [atI, if_pos hl]
    rw [e]
    have e2 : (i : Int) % 65536 = i := by omega
    go_enter Tryd.func62, Tryd.ntmps62
    go_wp2
    go_ret
    exact ⟨rfl, Below.refl _ _⟩
  · have hlt : i % n < n := Nat.mod_lt _ h0
    obtain ⟨a, rfl, hc⟩ := h.at_ (i % n) hlt
    have h2 : i / n ≤ 1000 := Nat.le_trans (Nat.div_le_self _ _) hi
    have h3 : (i : Int) / (n : Int) = ((i / n : Nat) : Int) := by norm_cast
    have h4 : (0 : Int) ≤ (i : Int) / (n : Int) := by rw [h3]; exact Int.natCast_nonneg _
    have h5 : (i : Int) / (n : Int) ≤ 1000 := by rw [h3]; exact_mod_cast h2
    have e : (atI l i : Int) = l.getD (i % n) 0 % 65536 + (i : Int) / (n : Int) % 65536 := by
      rw [atI, if_neg (by omega), hl, h3]
      generalize i / n = q at *
      have h1 := Int.emod_nonneg (l.getD (i % n) 0) (show (65536 : Int) ≠ 0 by decide)
      omega
    clear h3
    rw [e]
    generalize l.getD (i % n) 0 = x at *
    clear e
    go_enter Tryd.func62, Tryd.ntmps62
    go_wp2_with fail
    go_quiet (fail)
    go_wp2
    go_ret
    exact ⟨rfl, ⟨rfl, rfl, rfl, Nat.le_refl _, fun _ _ => rfl⟩⟩

def wordS (n : Nat) : ByteArray := match n with
  | 0 => ⟨#[]⟩
  | 1 => ⟨#[97]⟩
  | 2 => ⟨#[98]⟩
  | 3 => ⟨#[108, 111, 103, 105, 110]⟩
  | 4 => ⟨#[107, 101, 121]⟩
  | 5 => ⟨#[101, 120, 97, 109, 112, 108, 101, 46, 111, 114, 103]⟩
  | 6 => ⟨#[195, 169]⟩
  | _ => ⟨#[48, 49, 50, 51, 52, 53, 54, 55, 56, 57, 48, 49, 50, 51, 52, 53]⟩
def textS (k : Nat) : ByteArray := wordS (k % 8) ++ wordS (k / 8 % 8)

abbrev wordsO : Obj := .cells #[.string { data := #[] }, .string { data := #[97] }, .string { data := #[98] }, .string { data := #[108, 111, 103, 105, 110] }, .string { data := #[107, 101, 121] }, .string { data := #[101, 120, 97, 109, 112, 108, 101, 46, 111, 114, 103] }, .string { data := #[195, 169] }, .string { data := #[48, 49, 50, 51, 52, 53, 54, 55, 56, 57, 48, 49, 50, 51, 52, 53] }] 9
theorem word_cell (w : World) (i : Nat) (hi : i < 8) : (w.alloc wordsO).cell? ⟨w.heap.size, i, none⟩ = some (.string (wordS i)) := by
  refine cell_of_block (heap_new w _) ?_
  match i, hi with
  | 0, _ => rfl
  | 1, _ => rfl
  | 2, _ => rfl
  | 3, _ => rfl
  | 4, _ => rfl
  | 5, _ => rfl
  | 6, _ => rfl
  | 7, _ => rfl

theorem word_size (n : Nat) : (wordS n).size ≤ 16 := by
  unfold wordS
  split <;> decide
theorem text_size (k : Nat) : (textS k).size ≤ 32 := by
  have h1 := word_size (k % 8)
  have h2 := word_size (k / 8 % 8)
  rw [textS, ByteArray.size_append]
  omega

set_option maxHeartbeats 1000000 in
theorem txt_any (k : Nat) (w : World) :
    Calls Tryd.prog 63 #[.int .i64 k] w fun e w' => e = .returned (.string (textS k)) ∧ Below w.heap.size w w' := by
  have h1 : k % 8 < 8 := Nat.mod_lt _ (by decide)
  have h2 : k / 8 % 8 < 8 := Nat.mod_lt _ (by decide)
  have C1 := Lib.hid (word_cell w (k % 8) h1)
  have C2 := Lib.hid (word_cell w (k / 8 % 8) h2)
  have HB := Lib.hid ((Below.refl w.heap.size w).alloc (Nat.le_refl _) wordsO)
  have z1 := word_size (k % 8)
  have z2 := word_size (k / 8 % 8)
  unfold textS
  generalize wordS (k % 8) = s1 at *
  generalize wordS (k / 8 % 8) = s2 at *
  go_enter Tryd.func63, Tryd.ntmps63
  go_wp2_with fail
  obtain ⟨W, hW⟩ : ∃ W, w.alloc wordsO = W := ⟨_, rfl⟩
  rw [hW]
  have c1 := C1.out
  have c2 := C2.out
  have hb := HB.out
  rw [hW] at c1 c2 hb
  clear hW C1 C2 HB
  generalize hBs : w.heap.size = B at *
  have e1 : (k : Int) % 8 = ((k % 8 : Nat) : Int) := by omega
  have e2 : (k : Int) / 8 % 8 = ((k / 8 % 8 : Nat) : Int) := by omega
  generalize k % 8 = m1 at *
  generalize k / 8 % 8 = m2 at *
  have e3 : (m1 : Int) < 8 := by omega
  have e4 : (m2 : Int) < 8 := by omega
  have hadd := fun (W : World) => run_string_add_sum (P := Tryd.prog) (w := W) s1 s2 (by omega)
  have hsum : (s1.size : Int) + (s2.size : Int) ≤ 9223372036854775807 := by omega
  go_quiet (fail)
  go_wp2
  go_ret
  exact ⟨rfl, by rw [hBs]; exact hb.trans ⟨rfl, rfl, rfl, Nat.le_refl _, fun _ _ => rfl⟩⟩
end Go.Proofs.YtepinmeidjlmmaaDoor

/- The tree of a law, plain. -/
namespace Go.Proofs.YtepinmeidjlmmaaDoor
open Go.RowKit
set_option maxRecDepth 100000

def shlW (k s : Nat) : Int := ((k * 2 ^ s % 18446744073709551616 : Nat) : Int)
/-- a leaf of the tree -/
def leafI (n : Nat) : It :=
  if n % 8 = 0 then ⟨1, shlW (n / 8) (n / 8 % 64), ⟨#[]⟩⟩
  else if n % 8 = 1 then ⟨2, shlW (n / 8) (n / 8 / 4 % 64), ⟨#[]⟩⟩
  else if n % 8 = 2 then ⟨3, 0, textS (n / 8)⟩
  else if n % 8 = 3 then ⟨4, 0, textS (n / 8)⟩
  else if n % 8 = 4 then ⟨7, ((n / 8 % 2 : Nat) : Int), ⟨#[]⟩⟩
  else ⟨8, 0, ⟨#[]⟩⟩
/-- a key of a map -/
def longkey : ByteArray := ⟨#[108, 111, 110, 103, 107, 101, 121]⟩
def keyI (k i : Nat) : It := if i = 2 ∧ k / 128 % 2 = 1 then ⟨4, 0, longkey ++ textS (k % 4)⟩ else ⟨1, ((k / 4 % 32 + 20 * i : Nat) : Int), ⟨#[]⟩⟩
/-- the parts behind an array's or a map's head -/
def kidsE (T : Nat → List It × Nat) (ky : Nat → List It) : Nat → Nat → Nat → List It × Nat
  | 0, _, a => ([], a)
  | c + 1, i, a => (ky i ++ (T a).1 ++ (kidsE T ky c (i + 1) (T a).2).1, (kidsE T ky c (i + 1) (T a).2).2)
def nestB (n a : Nat) : Bool := decide (6 ≤ n % 8) && decide (a + 1 ≤ 30)
def keysOf (n : Nat) : Nat → List It := if n % 8 = 6 then fun _ => [] else fun i => [keyI (n / 8) i]
def headI (n : Nat) : It := ⟨if n % 8 = 6 then 5 else 6, ((n / 8 % 4 : Nat) : Int), ⟨#[]⟩⟩
/-- the tree at a: f more levels are allowed -/
def treeE (l : List Int) : Nat → Nat → List It × Nat
  | 0, a => ([leafI (atI l a)], a + 1)
  | f + 1, a =>
    if nestB (atI l a) a = true then
      (headI (atI l a) :: (kidsE (treeE l f) (keysOf (atI l a)) (atI l a / 8 % 4) 0 (a + 1)).1, (kidsE (treeE l f) (keysOf (atI l a)) (atI l a / 8 % 4) 0 (a + 1)).2)
    else ([leafI (atI l a)], a + 1)

theorem treeE_zero (l : List Int) (a : Nat) : treeE l 0 a = ([leafI (atI l a)], a + 1) := rfl
theorem treeE_leaf {l : List Int} {f a : Nat} (h : nestB (atI l a) a = false) : treeE l (f + 1) a = ([leafI (atI l a)], a + 1) := by simp [treeE, h]
theorem treeE_nest {l : List Int} {f a : Nat} (h : nestB (atI l a) a = true) : treeE l (f + 1) a = (headI (atI l a) :: (kidsE (treeE l f) (keysOf (atI l a)) (atI l a / 8 % 4) 0 (a + 1)).1, (kidsE (treeE l f) (keysOf (atI l a)) (atI l a / 8 % 4) 0 (a + 1)).2) := by simp [treeE, h]

theorem keysOf_len (n i : Nat) : (keysOf n i).length ≤ 1 := by
  unfold keysOf
  split <;> simp
theorem kids_bound {T : Nat → List It × Nat} {ky : Nat → List It} {L C : Nat} (hT : ∀ a, (T a).1.length ≤ L ∧ (T a).2 ≤ a + C) (hk : ∀ i, (ky i).length ≤ 1) :
    ∀ c i a, (kidsE T ky c i a).1.length ≤ c * (L + 1) ∧ (kidsE T ky c i a).2 ≤ a + c * C
  | 0, i, a => by simp [kidsE]
  | c + 1, i, a => by
    obtain ⟨h1, h2⟩ := kids_bound hT hk c (i + 1) (T a).2
    obtain ⟨h3, h4⟩ := hT a
    have h5 := hk i
    simp only [kidsE, List.length_append, Nat.add_mul, Nat.one_mul]
    refine ⟨?_, ?_⟩
    · have := Nat.mul_add c L 1
      omega
    · omega
def lenB : Nat → Nat
  | 0 => 1
  | f + 1 => 1 + 3 * (lenB f + 1)
def numB : Nat → Nat
  | 0 => 1
  | f + 1 => 1 + 3 * numB f
theorem lenB_pos : ∀ f, 1 ≤ lenB f
  | 0 => Nat.le_refl _
  | f + 1 => by simp [lenB]
theorem numB_pos : ∀ f, 1 ≤ numB f
  | 0 => Nat.le_refl _
  | f + 1 => by simp [numB]
theorem tree_bound (l : List Int) : ∀ f a, (treeE l f a).1.length ≤ lenB f ∧ (treeE l f a).2 ≤ a + numB f
  | 0, a => ⟨Nat.le_refl _, Nat.le_refl _⟩
  | f + 1, a => by
    by_cases h : nestB (atI l a) a = true
    · rw [treeE_nest h]
      obtain ⟨h1, h2⟩ := kids_bound (tree_bound l f) (keysOf_len (atI l a)) (atI l a / 8 % 4) 0 (a + 1)
      have h3 : atI l a / 8 % 4 ≤ 3 := by omega
      have h4 := Nat.mul_le_mul_right (lenB f + 1) h3
      have h5 := Nat.mul_le_mul_right (numB f) h3
      simp only [List.length_cons, lenB, numB]
      omega
    · have h' : nestB (atI l a) a = false := by simpa using h
      rw [treeE_leaf h']
      have h1 := lenB_pos (f + 1)
      have h2 := numB_pos (f + 1)
      simp only [List.length_singleton]
      omega
theorem tree_ne (l : List Int) (f a : Nat) : (treeE l f a).1 ≠ [] := by
  cases f with
  | zero => simp [treeE]
  | succ f =>
    unfold treeE
    split <;> simp

/-- what every item of a tree is like -/
def Fine (x : It) : Prop := 0 ≤ x.n ∧ x.d.size ≤ 100
theorem none_small : (⟨#[]⟩ : ByteArray).size ≤ 100 := by decide
theorem leaf_fine (n : Nat) : Fine (leafI n) := by
  have h1 := text_size (n / 8)
  unfold leafI Fine shlW
  have h0 := none_small
  repeat' split
  all_goals (refine ⟨?_, ?_⟩ <;> dsimp only <;> omega)
theorem key_fine (k i : Nat) : Fine (keyI k i) := by
  have h1 := text_size (k % 4)
  have h2 : longkey.size = 7 := rfl
  unfold keyI Fine
  split
  · simp only [ByteArray.size_append]; omega
  · exact ⟨Int.natCast_nonneg _, none_small⟩
theorem kids_fine {T : Nat → List It × Nat} {ky : Nat → List It} (hT : ∀ a, ∀ x ∈ (T a).1, Fine x) (hk : ∀ i, ∀ x ∈ ky i, Fine x) :
    ∀ c i a, ∀ x ∈ (kidsE T ky c i a).1, Fine x
  | 0, i, a, x, h => by simp [kidsE] at h
  | c + 1, i, a, x, h => by
    simp only [kidsE, List.mem_append] at h
    rcases h with (h | h) | h
    · exact hk i x h
    · exact hT a x h
    · exact kids_fine hT hk c (i + 1) _ x h
theorem keysOf_fine (n : Nat) : ∀ i, ∀ x ∈ keysOf n i, Fine x := by
  intro i x h
  unfold keysOf at h
  split at h
  · simp at h
  · simp at h; subst h; exact key_fine _ _
theorem tree_fine (l : List Int) : ∀ f a, ∀ x ∈ (treeE l f a).1, Fine x
  | 0, a, x, h => by simp [treeE] at h; subst h; exact leaf_fine _
  | f + 1, a, x, h => by
    by_cases hn : nestB (atI l a) a = true
    · rw [treeE_nest hn] at h
      simp only [List.mem_cons] at h
      rcases h with h | h
      · subst h; exact ⟨Int.natCast_nonneg _, none_small⟩
      · exact kids_fine (tree_fine l f) (keysOf_fine _) _ _ _ x h
    · have h' : nestB (atI l a) a = false := by simpa using hn
      rw [treeE_leaf h'] at h
      simp at h; subst h; exact leaf_fine _
end Go.Proofs.YtepinmeidjlmmaaDoor

/- The tree of a law: its leaves, walked. -/
namespace Go.Proofs.YtepinmeidjlmmaaDoor
open Go.RowKit
set_option maxRecDepth 100000

def LeafP (x : It) (a : Nat) (w : World) (e : Ending) (w' : World) : Prop := ∃ v, e = .returned (.tuple #[v, .int .i64 ((a : Int) + 1)]) ∧ w'.ownsRow w.heap.size 58 3 v 1 (itCells [x]) ∧ Below w.heap.size w w'
theorem shl_eq (k s : Nat) : IntKind.u64.wrap ((k : Int) * (2 : Int) ^ s) = shlW k s := by
  rw [shlW, IntKind.wrap_u64, Int.natCast_emod, Int.natCast_mul, Int.natCast_pow]
  rfl
theorem leaf_end (x : It) {w W : World} (h : Below w.heap.size w W) : (W.alloc (.cells #[.int .i64 x.k, .int .u64 x.n, .string x.d] 58)).ownsRow w.heap.size 58 3 (.slice (some ⟨W.heap.size, 0, none⟩) 1 1) 1 (itCells [x]) ∧ Below w.heap.size w (W.alloc (.cells #[.int .i64 x.k, .int .u64 x.n, .string x.d] 58)) :=
  ⟨own_lit W x.k x.n x.d w.heap.size h.size, h.alloc h.size _⟩

set_option maxHeartbeats 1000000 in
theorem leaf0 (A : Option Addr) (n cap : Nat) (l : List Int) (a dep N K : Nat) (w : World) (h : Ints w A n l) (hn : n ≤ 9223372036854775807) (ha : a ≤ 900) (hN : atI l a = N) (hK : N / 8 = K) (hN2 : N < 70000) (hc : N % 8 = 0) :
    Calls Tryd.prog 43 #[.slice A n cap, .int .i64 a, .int .i64 dep] w (LeafP ⟨1, shlW K (K % 64), ⟨#[]⟩⟩ a w) := by
  have e1 : (N : Int) % 8 = 0 := by omega
  have e2 : (N : Int) / 8 = K := by omega
  have e3 : (K : Int) ≤ 10000 := by omega
  have e4 : (a : Int) ≤ 900 := by omega
  have HA := Lib.hid (at_any A n cap l a w h (by omega) hn)
  rw [hN] at HA
  clear h hN hn hK hN2 hc
  go_enter Tryd.func43, Tryd.ntmps43
  go_wp2_with (go_at_call 62; refine HA.out.mono ?_; rintro e w1 ⟨rfl, hb1⟩)
  rw [shl_eq]
  go_ret2
  exact ⟨_, rfl, leaf_end ⟨1, shlW K (K % 64), ⟨#[]⟩⟩ hb1⟩

set_option maxHeartbeats 1000000 in
theorem leaf1 (A : Option Addr) (n cap : Nat) (l : List Int) (a dep N K : Nat) (w : World) (h : Ints w A n l) (hn : n ≤ 9223372036854775807) (ha : a ≤ 900) (hN : atI l a = N) (hK : N / 8 = K) (hN2 : N < 70000) (hc : N % 8 = 1) :
    Calls Tryd.prog 43 #[.slice A n cap, .int .i64 a, .int .i64 dep] w (LeafP ⟨2, shlW K (K / 4 % 64), ⟨#[]⟩⟩ a w) := by
  have e1 : (N : Int) % 8 = 1 := by omega
  have e2 : (N : Int) / 8 = K := by omega
  have e3 : (K : Int) ≤ 10000 := by omega
  have e4 : (a : Int) ≤ 900 := by omega
  have HA := Lib.hid (at_any A n cap l a w h (by omega) hn)
  rw [hN] at HA
  clear h hN hn hK hN2 hc
  go_enter Tryd.func43, Tryd.ntmps43
  go_wp2_with (go_at_call 62; refine HA.out.mono ?_; rintro e w1 ⟨rfl, hb1⟩)
  rw [shl_eq]
  go_ret2
  exact ⟨_, rfl, leaf_end ⟨2, shlW K (K / 4 % 64), ⟨#[]⟩⟩ hb1⟩

set_option maxHeartbeats 1000000 in
theorem leaf2 (A : Option Addr) (n cap : Nat) (l : List Int) (a dep N K : Nat) (w : World) (h : Ints w A n l) (hn : n ≤ 9223372036854775807) (ha : a ≤ 900) (hN : atI l a = N) (hK : N / 8 = K) (hN2 : N < 70000) (hc : N % 8 = 2) :
    Calls Tryd.prog 43 #[.slice A n cap, .int .i64 a, .int .i64 dep] w (LeafP ⟨3, 0, textS K⟩ a w) := by
  have e1 : (N : Int) % 8 = 2 := by omega
  have e2 : (N : Int) / 8 = K := by omega
  have e3 : (K : Int) ≤ 10000 := by omega
  have e4 : (a : Int) ≤ 900 := by omega
  have HA := Lib.hid (at_any A n cap l a w h (by omega) hn)
  rw [hN] at HA
  clear h hN hn hK hN2 hc
  go_enter Tryd.func43, Tryd.ntmps43
  go_wp2_with (first | (go_at_call 62; refine HA.out.mono ?_; rintro e w1 ⟨rfl, hb1⟩) | (go_at_call 63; refine (txt_any K _).mono ?_; rintro e w2 ⟨rfl, hb2⟩) | fail)
  go_ret2
  exact ⟨_, rfl, leaf_end ⟨3, 0, textS K⟩ (hb1.trans (hb2.mono hb1.size))⟩

set_option maxHeartbeats 1000000 in
theorem leaf3 (A : Option Addr) (n cap : Nat) (l : List Int) (a dep N K : Nat) (w : World) (h : Ints w A n l) (hn : n ≤ 9223372036854775807) (ha : a ≤ 900) (hN : atI l a = N) (hK : N / 8 = K) (hN2 : N < 70000) (hc : N % 8 = 3) :
    Calls Tryd.prog 43 #[.slice A n cap, .int .i64 a, .int .i64 dep] w (LeafP ⟨4, 0, textS K⟩ a w) := by
  have e1 : (N : Int) % 8 = 3 := by omega
  have e2 : (N : Int) / 8 = K := by omega
  have e3 : (K : Int) ≤ 10000 := by omega
  have e4 : (a : Int) ≤ 900 := by omega
  have HA := Lib.hid (at_any A n cap l a w h (by omega) hn)
  rw [hN] at HA
  clear h hN hn hK hN2 hc
  go_enter Tryd.func43, Tryd.ntmps43
  go_wp2_with (first | (go_at_call 62; refine HA.out.mono ?_; rintro e w1 ⟨rfl, hb1⟩) | (go_at_call 63; refine (txt_any K _).mono ?_; rintro e w2 ⟨rfl, hb2⟩) | fail)
  go_ret2
  exact ⟨_, rfl, leaf_end ⟨4, 0, textS K⟩ (hb1.trans (hb2.mono hb1.size))⟩

set_option maxHeartbeats 1000000 in
theorem leaf4 (A : Option Addr) (n cap : Nat) (l : List Int) (a dep N K : Nat) (w : World) (h : Ints w A n l) (hn : n ≤ 9223372036854775807) (ha : a ≤ 900) (hN : atI l a = N) (hK : N / 8 = K) (hN2 : N < 70000) (hc : N % 8 = 4) :
    Calls Tryd.prog 43 #[.slice A n cap, .int .i64 a, .int .i64 dep] w (LeafP ⟨7, ((K % 2 : Nat) : Int), ⟨#[]⟩⟩ a w) := by
  have e1 : (N : Int) % 8 = 4 := by omega
  have e2 : (N : Int) / 8 = K := by omega
  have e3 : (K : Int) ≤ 10000 := by omega
  have e4 : (a : Int) ≤ 900 := by omega
  have HA := Lib.hid (at_any A n cap l a w h (by omega) hn)
  rw [hN] at HA
  clear h hN hn hK hN2 hc
  go_enter Tryd.func43, Tryd.ntmps43
  go_wp2_with (go_at_call 62; refine HA.out.mono ?_; rintro e w1 ⟨rfl, hb1⟩)
  go_ret2
  exact ⟨_, rfl, leaf_end ⟨7, ((K % 2 : Nat) : Int), ⟨#[]⟩⟩ hb1⟩

set_option maxHeartbeats 1000000 in
theorem leaf5 (A : Option Addr) (n cap : Nat) (l : List Int) (a dep N K : Nat) (w : World) (h : Ints w A n l) (hn : n ≤ 9223372036854775807) (ha : a ≤ 900) (hN : atI l a = N) (hK : N / 8 = K) (hN2 : N < 70000) (hc : N % 8 = 5) :
    Calls Tryd.prog 43 #[.slice A n cap, .int .i64 a, .int .i64 dep] w (LeafP ⟨8, 0, ⟨#[]⟩⟩ a w) := by
  have e1 : (N : Int) % 8 = 5 := by omega
  have e2 : (N : Int) / 8 = K := by omega
  have e3 : (K : Int) ≤ 10000 := by omega
  have e4 : (a : Int) ≤ 900 := by omega
  have HA := Lib.hid (at_any A n cap l a w h (by omega) hn)
  rw [hN] at HA
  clear h hN hn hK hN2 hc
  go_enter Tryd.func43, Tryd.ntmps43
  go_wp2_with (go_at_call 62; refine HA.out.mono ?_; rintro e w1 ⟨rfl, hb1⟩)
  go_ret2
  exact ⟨_, rfl, leaf_end ⟨8, 0, ⟨#[]⟩⟩ hb1⟩

set_option maxHeartbeats 1000000 in
theorem leaf6d (A : Option Addr) (n cap : Nat) (l : List Int) (a dep N K : Nat) (w : World) (h : Ints w A n l) (hn : n ≤ 9223372036854775807) (ha : a ≤ 900) (hN : atI l a = N) (hK : N / 8 = K) (hN2 : N < 70000) (hc : N % 8 = 6) (hd : 3 < dep) :
    Calls Tryd.prog 43 #[.slice A n cap, .int .i64 a, .int .i64 dep] w (LeafP ⟨8, 0, ⟨#[]⟩⟩ a w) := by
  have e1 : (N : Int) % 8 = 6 := by omega
  have e2 : (N : Int) / 8 = K := by omega
  have e3 : (K : Int) ≤ 10000 := by omega
  have e4 : (a : Int) ≤ 900 := by omega
  have e5 : (3 : Int) < (dep : Int) := by omega
  have HA := Lib.hid (at_any A n cap l a w h (by omega) hn)
  rw [hN] at HA
  clear h hN hn hK hN2 hc
  go_enter Tryd.func43, Tryd.ntmps43
  go_wp2_with (go_at_call 62; refine HA.out.mono ?_; rintro e w1 ⟨rfl, hb1⟩)
  go_ret2
  exact ⟨_, rfl, leaf_end ⟨8, 0, ⟨#[]⟩⟩ hb1⟩

set_option maxHeartbeats 1000000 in
theorem leaf6a (A : Option Addr) (n cap : Nat) (l : List Int) (a dep N K : Nat) (w : World) (h : Ints w A n l) (hn : n ≤ 9223372036854775807) (ha : a ≤ 900) (hN : atI l a = N) (hK : N / 8 = K) (hN2 : N < 70000) (hc : N % 8 = 6) (hd : dep ≤ 3) (h30 : 30 < a + 1) :
    Calls Tryd.prog 43 #[.slice A n cap, .int .i64 a, .int .i64 dep] w (LeafP ⟨8, 0, ⟨#[]⟩⟩ a w) := by
  have e1 : (N : Int) % 8 = 6 := by omega
  have e2 : (N : Int) / 8 = K := by omega
  have e3 : (K : Int) ≤ 10000 := by omega
  have e4 : (a : Int) ≤ 900 := by omega
  have e5 : ¬ (3 : Int) < (dep : Int) := by omega
  have e6 : (30 : Int) < (a : Int) + 1 := by omega
  have HA := Lib.hid (at_any A n cap l a w h (by omega) hn)
  rw [hN] at HA
  clear h hN hn hK hN2 hc
  go_enter Tryd.func43, Tryd.ntmps43
  go_wp2_with (go_at_call 62; refine HA.out.mono ?_; rintro e w1 ⟨rfl, hb1⟩)
  go_ret2
  exact ⟨_, rfl, leaf_end ⟨8, 0, ⟨#[]⟩⟩ hb1⟩

set_option maxHeartbeats 1000000 in
theorem leaf7d (A : Option Addr) (n cap : Nat) (l : List Int) (a dep N K : Nat) (w : World) (h : Ints w A n l) (hn : n ≤ 9223372036854775807) (ha : a ≤ 900) (hN : atI l a = N) (hK : N / 8 = K) (hN2 : N < 70000) (hc : N % 8 = 7) (hd : 3 < dep) :
    Calls Tryd.prog 43 #[.slice A n cap, .int .i64 a, .int .i64 dep] w (LeafP ⟨8, 0, ⟨#[]⟩⟩ a w) := by
  have e1 : (N : Int) % 8 = 7 := by omega
  have e2 : (N : Int) / 8 = K := by omega
  have e3 : (K : Int) ≤ 10000 := by omega
  have e4 : (a : Int) ≤ 900 := by omega
  have e5 : (3 : Int) < (dep : Int) := by omega
  have HA := Lib.hid (at_any A n cap l a w h (by omega) hn)
  rw [hN] at HA
  clear h hN hn hK hN2 hc
  go_enter Tryd.func43, Tryd.ntmps43
  go_wp2_with (go_at_call 62; refine HA.out.mono ?_; rintro e w1 ⟨rfl, hb1⟩)
  go_ret2
  exact ⟨_, rfl, leaf_end ⟨8, 0, ⟨#[]⟩⟩ hb1⟩

set_option maxHeartbeats 1000000 in
theorem leaf7a (A : Option Addr) (n cap : Nat) (l : List Int) (a dep N K : Nat) (w : World) (h : Ints w A n l) (hn : n ≤ 9223372036854775807) (ha : a ≤ 900) (hN : atI l a = N) (hK : N / 8 = K) (hN2 : N < 70000) (hc : N % 8 = 7) (hd : dep ≤ 3) (h30 : 30 < a + 1) :
    Calls Tryd.prog 43 #[.slice A n cap, .int .i64 a, .int .i64 dep] w (LeafP ⟨8, 0, ⟨#[]⟩⟩ a w) := by
  have e1 : (N : Int) % 8 = 7 := by omega
  have e2 : (N : Int) / 8 = K := by omega
  have e3 : (K : Int) ≤ 10000 := by omega
  have e4 : (a : Int) ≤ 900 := by omega
  have e5 : ¬ (3 : Int) < (dep : Int) := by omega
  have e6 : (30 : Int) < (a : Int) + 1 := by omega
  have HA := Lib.hid (at_any A n cap l a w h (by omega) hn)
  rw [hN] at HA
  clear h hN hn hK hN2 hc
  go_enter Tryd.func43, Tryd.ntmps43
  go_wp2_with (go_at_call 62; refine HA.out.mono ?_; rintro e w1 ⟨rfl, hb1⟩)
  go_ret2
  exact ⟨_, rfl, leaf_end ⟨8, 0, ⟨#[]⟩⟩ hb1⟩
end Go.Proofs.YtepinmeidjlmmaaDoor

/- The tree of a law: leaves as one contract, arrays. -/
namespace Go.Proofs.YtepinmeidjlmmaaDoor
open Go.RowKit
set_option maxRecDepth 100000

def TreeP (r : List It × Nat) (w : World) (e : Ending) (w' : World) : Prop := ∃ v, e = .returned (.tuple #[v, .int .i64 (r.2 : Nat)]) ∧ w'.ownsRow w.heap.size 58 3 v r.1.length (itCells r.1) ∧ Below w.heap.size w w'

theorem leaf_any (A : Option Addr) (n cap : Nat) (l : List Int) (a dep : Nat) (w : World) (h : Ints w A n l) (hn : n ≤ 9223372036854775807) (ha : a ≤ 900) (hs : atI l a % 8 ≤ 5 ∨ 3 < dep ∨ 30 < a + 1) :
    Calls Tryd.prog 43 #[.slice A n cap, .int .i64 a, .int .i64 dep] w (TreeP ([leafI (atI l a)], a + 1) w) := by
  have hlt := atI_lt l a (by omega)
  obtain ⟨N, hN⟩ : ∃ N, atI l a = N := ⟨_, rfl⟩
  obtain ⟨K, hK⟩ : ∃ K, N / 8 = K := ⟨_, rfl⟩
  rw [hN] at hs hlt ⊢
  have key : ∀ x, leafI N = x → Calls Tryd.prog 43 #[.slice A n cap, .int .i64 a, .int .i64 dep] w (LeafP x a w) → Calls Tryd.prog 43 #[.slice A n cap, .int .i64 a, .int .i64 dep] w (TreeP ([leafI N], a + 1) w) := by
    intro x hx hc
    rw [hx]
    exact hc.mono fun e w' h => h
  have hm : N % 8 < 8 := Nat.mod_lt _ (by decide)
  by_cases h0 : N % 8 = 0
  · exact key _ (by rw [leafI, if_pos h0, hK]) (leaf0 A n cap l a dep N K w h hn ha hN hK hlt h0)
  by_cases h1 : N % 8 = 1
  · exact key _ (by rw [leafI, if_neg h0, if_pos h1, hK]) (leaf1 A n cap l a dep N K w h hn ha hN hK hlt h1)
  by_cases h2 : N % 8 = 2
  · exact key _ (by rw [leafI, if_neg h0, if_neg h1, if_pos h2, hK]) (leaf2 A n cap l a dep N K w h hn ha hN hK hlt h2)
  by_cases h3 : N % 8 = 3
  · exact key _ (by rw [leafI, if_neg h0, if_neg h1, if_neg h2, if_pos h3, hK]) (leaf3 A n cap l a dep N K w h hn ha hN hK hlt h3)
  by_cases h4 : N % 8 = 4
  · exact key _ (by rw [leafI, if_neg h0, if_neg h1, if_neg h2, if_neg h3, if_pos h4, hK]) (leaf4 A n cap l a dep N K w h hn ha hN hK hlt h4)
  refine key _ (by rw [leafI, if_neg h0, if_neg h1, if_neg h2, if_neg h3, if_neg h4]) ?_
  by_cases h5 : N % 8 = 5
  · exact leaf5 A n cap l a dep N K w h hn ha hN hK hlt h5
  by_cases h6 : N % 8 = 6
  · by_cases hd : 3 < dep
    · exact leaf6d A n cap l a dep N K w h hn ha hN hK hlt h6 hd
    · exact leaf6a A n cap l a dep N K w h hn ha hN hK hlt h6 (by omega) (by omega)
  · by_cases hd : 3 < dep
    · exact leaf7d A n cap l a dep N K w h hn ha hN hK hlt (by omega) hd
    · exact leaf7a A n cap l a dep N K w h hn ha hN hK hlt (by omega) (by omega) (by omega)

/-- what a child's tree is, behind any world -/
def KidC (T : Nat → List It × Nat) (A : Option Addr) (n cap dep M : Nat) (w : World) : Prop :=
  ∀ (W : World) (a : Nat), Below w.heap.size w W → a ≤ M → Calls Tryd.prog 43 #[.slice A n cap, .int .i64 a, .int .i64 ((dep : Int) + 1)] W (TreeP (T a) W)

theorem row_items {w : World} {base n : Nat} {v : Value} {l : List It} (h : w.ownsRow base 58 3 v n (itCells l)) (hne : l ≠ []) (hok : ∀ x ∈ l, Fine x) (hl : l.length ≤ 1000) : ∃ g cap, v = .slice (some ⟨g, 0, none⟩) l.length cap ∧ ItemsAt w w.heap.size (.slice (some ⟨g, 0, none⟩) l.length cap) l := by
  have hn : n = l.length := by have h1 := h.1; rw [itCells_len] at h1; omega
  rcases h.2 with ⟨hv, h0⟩ | ⟨g, cap, cur, hv, _⟩
  · subst h0
    exact absurd (List.eq_nil_of_length_eq_zero hn.symm) hne
  · subst hv hn
    exact ⟨g, cap, rfl, itemsAt_own h (fun x hx => ⟨(hok x hx).1, by have := (hok x hx).2; unfold maxLen; omega⟩) (by omega)⟩

set_option maxHeartbeats 2000000 in
theorem tree_array (T : Nat → List It × Nat) (A : Option Addr) (n cap : Nat) (l : List Int) (a dep N K M L : Nat) (w : World) (h : Ints w A n l) (hn : n ≤ 9223372036854775807) (ha : a ≤ 29) (hN : atI l a = N) (hK : N / 8 = K) (hN2 : N < 70000) (hc : N % 8 = 6) (hd : dep ≤ 3)
    (hT : ∀ a, (T a).1.length ≤ L ∧ (T a).2 ≤ a + M) (hM : M ≤ 200) (hL : L ≤ 300) (hne : ∀ a, (T a).1 ≠ []) (hfine : ∀ a, ∀ x ∈ (T a).1, Fine x)
    (hC : KidC T A n cap dep 800 w) :
    Calls Tryd.prog 43 #[.slice A n cap, .int .i64 a, .int .i64 dep] w (TreeP (⟨5, ((K % 4 : Nat) : Int), ⟨#[]⟩⟩ :: (kidsE T (fun _ => []) (K % 4) 0 (a + 1)).1, (kidsE T (fun _ => []) (K % 4) 0 (a + 1)).2) w) := by
  have e1 : (N : Int) % 8 = 6 := by omega
  have e2 : (N : Int) / 8 = K := by omega
  have e3 : (K : Int) ≤ 10000 := by omega
  have e4 : (a : Int) ≤ 29 := by omega
  have e5 : ¬ (3 : Int) < (dep : Int) := by omega
  have e6 : ¬ (30 : Int) < (a : Int) + 1 := by omega
  obtain ⟨c, hcK⟩ : ∃ c, K % 4 = c := ⟨_, rfl⟩
  rw [hcK]
  have hc3 : c ≤ 3 := by omega
  have e7 : (K : Int) % 4 = c := by omega
  have HA := Lib.hid (at_any A n cap l a w h (by omega) hn)
  rw [hN] at HA
  have HT := Lib.hid hT
  have HNE := Lib.hid hne
  have HF := Lib.hid hfine
  have HC := Lib.hid hC
  clear h hN hn hK hN2 hc hT hne hfine hC
  go_enter Tryd.func43, Tryd.ntmps43
  go_wp2_with (go_at_call 62; refine HA.out.mono ?_; rintro e w1 ⟨rfl, hb1⟩)
  have HO1 := Lib.hid (own_lit w1 5 c ⟨#[]⟩ w.heap.size hb1.size)
  have HB1 := Lib.hid (hb1.alloc hb1.size (.cells #[.int .i64 5, .int .u64 c, .string ⟨#[]⟩] 58))
  clear hb1
  have hgo0 : [(⟨5, (c : Int), ⟨#[]⟩⟩ : It)] ++ (kidsE T (fun _ => []) (c - 0) 0 (a + 1)).1 = ⟨5, (c : Int), ⟨#[]⟩⟩ :: (kidsE T (fun _ => []) c 0 (a + 1)).1 := rfl
  have HG0 := Lib.hid hgo0
  clear hgo0
  go_loopw [1, 11, 12] (fun at_ out i wr => ∃ (j a2 m : Nat) (xs : List It), j ≤ c ∧ at_ = .int .i64 a2 ∧ i = .int .i64 j ∧ m = xs.length ∧ a2 ≤ 30 + 200 * j ∧ m ≤ 1 + 300 * j ∧ Hid (wr.ownsRow w.heap.size 58 3 out m (itCells xs)) ∧ Below w.heap.size w wr ∧ Hid (xs ++ (kidsE T (fun _ => []) (c - j) j a2).1 = ⟨5, (c : Int), ⟨#[]⟩⟩ :: (kidsE T (fun _ => []) c 0 (a + 1)).1) ∧ Hid ((kidsE T (fun _ => []) (c - j) j a2).2 = (kidsE T (fun _ => []) c 0 (a + 1)).2)) (fun _ _ i _ => c - (intOf i).toNat)
  case atStart => exact ⟨0, a + 1, 1, [⟨5, c, ⟨#[]⟩⟩], by omega, by go_num, rfl, rfl, by omega, by omega, HO1, HB1.out, HG0, Lib.hid rfl⟩
  case round =>
    obtain ⟨j, a2, m, xs, hj, rfl, rfl, hm, ha2, hxl, HO, hbw, HG, HG2⟩ := hrel
    have HM := Lib.hid hm
    have HBW := Lib.hid hbw
    have hsz := hbw.size
    clear hm hbw
    by_cases hlt : j < c
    · have hlt2 : (j : Int) < (c : Int) := by omega
      obtain ⟨q, hq⟩ : ∃ q, c - j = q + 1 := ⟨c - j - 1, by omega⟩
      have hq2 : q = c - (j + 1) := by omega
      have hk := HC.out wr a2 HBW.out (by omega)
      have ht := HT.out a2
      have hn2 := HNE.out a2
      have hf2 := HF.out a2
      have hg1 := HG.out
      have hg2 := HG2.out
      rw [hq] at hg1 hg2
      simp only [kidsE, List.nil_append] at hg1 hg2
      generalize T a2 = r at hk ht hn2 hf2 hg1 hg2
      obtain ⟨ys, a3⟩ := r
      dsimp only at hk ht hn2 hf2 hg1 hg2
      rw [← List.append_assoc, hq2] at hg1
      rw [hq2] at hg2
      obtain ⟨ht1, ht2⟩ := ht
      have HK := Lib.hid hk
      have HN2 := Lib.hid hn2
      have HF2 := Lib.hid hf2
      have HG3 := Lib.hid hg1
      have HG4 := Lib.hid hg2
      clear hk hn2 hf2 hg1 hg2 hq hq2
      go_wp2_with (first
        | (go_at_call 43; refine HK.out.mono ?_; rintro e w2 ⟨v2, rfl, ho2, hb2⟩; obtain ⟨g2, cap2, hv2, hI2⟩ := row_items (l := ys) ho2 HN2.out HF2.out (by omega); subst hv2; have HI2 := Lib.hid hI2; have HB2 := Lib.hid hb2; clear ho2 hI2 hb2)
        | (at_builtin; (refine app_items rfl _ _ rfl w.heap.size _ m xs ys w2.heap.size g2 0 cap2 (own_below HO.out HB2.out) rfl HI2.out rfl HN2.out (by omega) (by omega) (by have := HB2.out.size; omega) ?_); intro v3 w3 ho3 hb3)
        | fail)
      go_roundw
      case rel => exact ⟨j + 1, a3, m + ys.length, xs ++ ys, by omega, rfl, by go_num, by have := HM.out; simp; omega, by omega, by omega, Lib.hid ho3, (HBW.out.trans (HB2.out.mono hsz)).trans hb3, HG3, HG4⟩
      case measure => simp [intOf]; omega
    · obtain rfl : c = j := by omega
      have hlt2 : ¬ (c : Int) < (c : Int) := by omega
      go_wp2
      go_ret2
      have hg1 := HG.out
      have hg2 := HG2.out
      rw [Nat.sub_self] at hg1 hg2
      simp only [kidsE, List.append_nil] at hg1 hg2
      rw [← hg1, ← hg2]
      have hm := HM.out
      subst hm
      exact ⟨_, rfl, HO.out, HBW.out⟩
end Go.Proofs.YtepinmeidjlmmaaDoor

/- The tree of a law: maps. -/
namespace Go.Proofs.YtepinmeidjlmmaaDoor
open Go.RowKit
set_option maxRecDepth 100000

/-- append(a, s...) of items, a the call's own: other blocks stay -/
theorem app_items3 {ops : Array Oper} {rest : List Oper} {o : Oper} {a : Act} {Q : Exit → Act → World → Prop} {w : World} (hgd : o.guard = none) (s x : Operand)
    (ho : o.op = .call { callee := .builtin .append, args := #[s, x], argTypes := #[22, 22] })
    (base : Nat) (v : Value) (n : Nat) (xs : List It) (l : List It) (B b off cap : Nat) (hown : w.ownsRow base 58 3 v n (itCells xs)) (hs : a.eval s = v)
    (hI : ItemsAt w B (.slice (some ⟨b, off, none⟩) l.length cap) l) (hx : a.eval x = .slice (some ⟨b, off, none⟩) l.length cap) (hne : l ≠ []) (hn : n ≤ 1000000) (hl : l.length ≤ 1000000) (hb : base ≤ w.heap.size)
    (h : ∀ v' w', w'.ownsRow base 58 3 v' (n + l.length) (itCells (xs ++ l)) → Below base w w' → (∀ k, k < w.heap.size → some k ≠ v.ownBlock → w'.heap[k]? = w.heap[k]?) → wpList Tryd.prog ops Q rest (a.put o.dst v') w') :
    wpList Tryd.prog ops Q (o :: rest) a w := by
  obtain ⟨i0, hi, hz0, hz1, hz2⟩ := info_parts info58
  refine wpList_append_own _ hgd s x 22 ho base 58 i0 _ 3 32 Tryd.underlying22 hi hz0 hz1 hz2 rfl (by decide) v n _ hs hown ⟨b, off, none⟩ l.length cap (itCells l) hx (itCells_len l) (itemsAt_src hI hne).2 (itCells_one l) (by unfold maxLen; omega) (by omega) hb ?_
  intro v' w' h1 h2 _
  rw [← itCells_app] at h1
  exact h v' w' h1 (below_of_grown hown hb h2) h2.block
theorem ItemsAt.moved {w w' : World} {B B' g n cap : Nat} {l : List It} (h : ItemsAt w B (.slice (some ⟨g, 0, none⟩) n cap) l) (he : w'.heap[g]? = w.heap[g]?) (hB : B ≤ B') : ItemsAt w' B' (.slice (some ⟨g, 0, none⟩) n cap) l :=
  ⟨by
    rcases h.form with ⟨h0, _⟩ | ⟨b, off, cap', hv, hlt, hc⟩
    · cases h0
    · have hg : b = g := by cases hv; rfl
      subst hg
      exact .inr ⟨b, off, cap', hv, Nat.lt_of_lt_of_le hlt hB, fun i hi => ⟨(World.cell?_of_block (a := ⟨b, off + i * 3, none⟩) he).trans (hc i hi).1, (World.cell?_of_block (a := ⟨b, off + i * 3 + 1, none⟩) he).trans (hc i hi).2.1, (World.cell?_of_block (a := ⟨b, off + i * 3 + 2, none⟩) he).trans (hc i hi).2.2⟩⟩, h.ok, h.len⟩
theorem own_not_new {w : World} {base n k : Nat} {v : Value} {xs : List Value} (h : w.ownsRow base 58 3 v n xs) (hk : w.heap.size ≤ k) : some k ≠ v.ownBlock := fun he => by
  have := (h.lt k he.symm).2
  omega
theorem row_block {w : World} {base n g cap : Nat} {xs : List Value} (h : w.ownsRow base 58 3 (.slice (some ⟨g, 0, none⟩) n cap) n xs) : base ≤ g ∧ g < w.heap.size := h.lt g rfl

theorem box_set {W : World} {B : Nat} {k n : Int} {d : ByteArray} (h : Box W B k n d) (k' n' : Int) (d' : ByteArray) :
    Box (((W.setCell ⟨B, 0, none⟩ (.int .i64 k')).setCell ⟨B, 1, none⟩ (.int .u64 n')).setCell ⟨B, 2, none⟩ (.string d')) B k' n' d' :=
  heap_setCell_same _ B 2 _ 58 _ (heap_setCell_same _ B 1 _ 58 _ (heap_setCell_same _ B 0 _ 58 _ h))

set_option maxHeartbeats 4000000 in
theorem tree_map (T : Nat → List It × Nat) (A : Option Addr) (n cap : Nat) (l : List Int) (a dep N K M L : Nat) (w : World) (h : Ints w A n l) (hn : n ≤ 9223372036854775807) (ha : a ≤ 29) (hN : atI l a = N) (hK : N / 8 = K) (hN2 : N < 70000) (hc : N % 8 = 7) (hd : dep ≤ 3)
    (hT : ∀ a, (T a).1.length ≤ L ∧ (T a).2 ≤ a + M) (hM : M ≤ 200) (hL : L ≤ 300) (hne : ∀ a, (T a).1 ≠ []) (hfine : ∀ a, ∀ x ∈ (T a).1, Fine x)
    (hC : KidC T A n cap dep 800 w) :
    Calls Tryd.prog 43 #[.slice A n cap, .int .i64 a, .int .i64 dep] w (TreeP (⟨6, ((K % 4 : Nat) : Int), ⟨#[]⟩⟩ :: (kidsE T (fun i => [keyI K i]) (K % 4) 0 (a + 1)).1, (kidsE T (fun i => [keyI K i]) (K % 4) 0 (a + 1)).2) w) := by
  have e1 : (N : Int) % 8 = 7 := by omega
  have e2 : (N : Int) / 8 = K := by omega
  have e3 : (K : Int) ≤ 10000 := by omega
  have e4 : (a : Int) ≤ 29 := by omega
  have e5 : ¬ (3 : Int) < (dep : Int) := by omega
  have e6 : ¬ (30 : Int) < (a : Int) + 1 := by omega
  obtain ⟨c, hcK⟩ : ∃ c, K % 4 = c := ⟨_, rfl⟩
  rw [hcK]
  have hc3 : c ≤ 3 := by omega
  have e7 : (K : Int) % 4 = c := by omega
  have HA := Lib.hid (at_any A n cap l a w h (by omega) hn)
  rw [hN] at HA
  have HT := Lib.hid hT
  have HNE := Lib.hid hne
  have HF := Lib.hid hfine
  have HC := Lib.hid hC
  clear h hN hn hK hN2 hc hT hne hfine hC
  go_enter Tryd.func43, Tryd.ntmps43
  go_wp2_with (go_at_call 62; refine HA.out.mono ?_; rintro e w1 ⟨rfl, hb1⟩)
  have HO1 := Lib.hid (own_lit w1 6 c ⟨#[]⟩ w.heap.size hb1.size)
  have HB1 := Lib.hid (hb1.alloc hb1.size (.cells #[.int .i64 6, .int .u64 c, .string ⟨#[]⟩] 58))
  clear hb1
  have hgo0 : [(⟨6, (c : Int), ⟨#[]⟩⟩ : It)] ++ (kidsE T (fun i => [keyI K i]) (c - 0) 0 (a + 1)).1 = ⟨6, (c : Int), ⟨#[]⟩⟩ :: (kidsE T (fun i => [keyI K i]) c 0 (a + 1)).1 := rfl
  have HG0 := Lib.hid hgo0
  clear hgo0
  go_loopw [1, 14, 15] (fun at_ out i wr => ∃ (j a2 m : Nat) (xs : List It), j ≤ c ∧ at_ = .int .i64 a2 ∧ i = .int .i64 j ∧ m = xs.length ∧ a2 ≤ 30 + 200 * j ∧ m ≤ 1 + 301 * j ∧ Hid (wr.ownsRow w.heap.size 58 3 out m (itCells xs)) ∧ Below w.heap.size w wr ∧ Hid (xs ++ (kidsE T (fun i => [keyI K i]) (c - j) j a2).1 = ⟨6, (c : Int), ⟨#[]⟩⟩ :: (kidsE T (fun i => [keyI K i]) c 0 (a + 1)).1) ∧ Hid ((kidsE T (fun i => [keyI K i]) (c - j) j a2).2 = (kidsE T (fun i => [keyI K i]) c 0 (a + 1)).2)) (fun _ _ i _ => c - (intOf i).toNat)
  case atStart => exact ⟨0, a + 1, 1, [⟨6, c, ⟨#[]⟩⟩], by omega, by go_num, rfl, rfl, by omega, by omega, HO1, HB1.out, HG0, Lib.hid rfl⟩
  case round =>
    obtain ⟨j, a2, m, xs, hj, rfl, rfl, hm, ha2, hxl, HO, hbw, HG, HG2⟩ := hrel
    have HM := Lib.hid hm
    have HBW := Lib.hid hbw
    have hsz := hbw.size
    clear hm hbw
    by_cases hlt : j < c
    · have hlt2 : (j : Int) < (c : Int) := by omega
      have hj3 : (j : Int) ≤ 2 := by omega
      obtain ⟨q, hq⟩ : ∃ q, c - j = q + 1 := ⟨c - j - 1, by omega⟩
      have hq2 : q = c - (j + 1) := by omega
      have hk := fun W h => HC.out W a2 h (by omega)
      have ht := HT.out a2
      have hn2 := HNE.out a2
      have hf2 := HF.out a2
      have hg1 := HG.out
      have hg2 := HG2.out
      rw [hq] at hg1 hg2
      simp only [kidsE] at hg1 hg2
      generalize T a2 = r at hk ht hn2 hf2 hg1 hg2
      obtain ⟨ys, a3⟩ := r
      dsimp only at hk ht hn2 hf2 hg1 hg2
      rw [← List.append_assoc, ← List.append_assoc, hq2] at hg1
      rw [hq2] at hg2
      obtain ⟨ht1, ht2⟩ := ht
      have HK := Lib.hid hk
      have HN2 := Lib.hid hn2
      have HF2 := Lib.hid hf2
      have HG3 := Lib.hid hg1
      have HG4 := Lib.hid hg2
      have hkf := key_fine K j
      clear hk hn2 hf2 hg1 hg2 hq hq2
      by_cases h2 : j = 2
      · by_cases hlong : K / 128 % 2 = 1
        · have h2' : (j : Int) = 2 := by omega
          have h3' : (K : Int) / 128 % 2 = 1 := by omega
          have hkey : keyI K j = ⟨4, 0, longkey ++ textS c⟩ := by rw [keyI, if_pos ⟨h2, hlong⟩, hcK]
          have HKEY := Lib.hid hkey
          rw [hkey] at hkf
          have hkn : (0 : Int) ≤ 0 := Int.le_refl 0
          have hkd : (longkey ++ textS c).size ≤ 100 := hkf.2
          clear hkey hkf
          have htz := text_size c
          have hsz7 : (⟨#[108, 111, 110, 103, 107, 101, 121]⟩ : ByteArray).size = 7 := rfl
          have hadd := fun (W : World) => run_string_add_sum (P := Tryd.prog) (w := W) ⟨#[108, 111, 110, 103, 107, 101, 121]⟩ (textS c) (by omega)
          have hsum : ((⟨#[108, 111, 110, 103, 107, 101, 121]⟩ : ByteArray).size : Int) + ((textS c).size : Int) ≤ 9223372036854775807 := by omega
          go_wp2_with (first
            | (go_at_call 63; refine (txt_any c _).mono ?_; rintro e w5 ⟨rfl, hb5⟩; have hx5 := (Box.new wr 1 ((K : Int) / 4 % 32 + 40) ⟨#[]⟩).keep hb5; obtain ⟨z0, z1, z2, f0, f1, f2⟩ := hx5.cells)
            | fail)
          have HW := Lib.hid ((((((Below.refl wr.heap.size wr).alloc (Nat.le_refl _) (.cells #[.int .i64 1, .int .u64 ((K : Int) / 4 % 32 + 40), .string ⟨#[]⟩] 58)).trans (hb5.mono (by simp))).setCell (p := ⟨wr.heap.size, 0, none⟩) (Nat.le_refl _) (.int .i64 4)).setCell (p := ⟨wr.heap.size, 1, none⟩) (Nat.le_refl _) (.int .u64 0)).setCell (p := ⟨wr.heap.size, 2, none⟩) (Nat.le_refl _) (.string (longkey ++ textS c)))
          have BX := Lib.hid (box_set hx5 4 0 (longkey ++ textS c))
          clear hb5 hx5 z0 z1 z2 f0 f1 f2 hadd
          refine (HK.out _ (HBW.out.trans (HW.out.mono hsz))).mono ?_
          rintro e w2 ⟨v2, rfl, ho2, hb2⟩
          obtain ⟨g2, cap2, hv2, hI2⟩ := row_items (l := ys) ho2 HN2.out HF2.out (by omega)
          subst hv2
          have hr2 := row_block (n := ys.length) ho2
          have hx2 := BX.out.keep hb2
          have hs2 := hb2.size
          have hs1 := HW.out.size
          have HW2 := Lib.hid (HW.out.trans (hb2.mono hs1))
          have HX2 := Lib.hid hx2
          have HI2 := Lib.hid hI2
          have hlx : wr.heap.size < w2.heap.size := hx2.lt
          have HR2 := Lib.hid hr2
          obtain ⟨z0, z1, z2, _, _, _⟩ := hx2.cells
          clear ho2 hb2 hI2 hx2 hr2
          have hit : ItemsAt (w2.alloc (.cells #[.int .i64 4, .int .u64 0, .string (longkey ++ textS c)] 58)) (w2.heap.size + 1) (.slice (some ⟨w2.heap.size, 0, none⟩) 1 1) [⟨4, 0, (longkey ++ textS c)⟩] := itemsAt_one (by omega) (heap_new w2 _) hkn (Nat.le_trans hkd (by decide))
          have HIT := Lib.hid hit
          clear hit
          go_wp2_with (first
            | (at_builtin; (refine app_items3 rfl _ _ rfl w.heap.size _ m xs [⟨4, 0, (longkey ++ textS c)⟩] (w2.heap.size + 1) w2.heap.size 0 1 ((own_below HO.out HW2.out).alloc _) rfl HIT.out rfl (by simp) (by omega) (by simp) (by simp; omega) ?_); intro v3 w3 ho3 hb3 hk3; have HI3 := Lib.hid ((HI2.out.below ((Below.refl w2.heap.size w2).alloc (Nat.le_refl _) (.cells #[.int .i64 4, .int .u64 0, .string (longkey ++ textS c)] 58))).moved (hk3 g2 (by have := HR2.out.2; simp; omega) (own_not_new HO.out (by have := HR2.out.1; omega))) (Nat.le_refl _)); have HO3 := Lib.hid ho3; have hs3 := hb3.size; have HB3 := Lib.hid ((HBW.out.trans (HW2.out.mono hsz)).trans (((Below.refl w.heap.size w2).alloc (by omega) (.cells #[.int .i64 4, .int .u64 0, .string (longkey ++ textS c)] 58)).trans hb3)); rw [heap_alloc_size] at hs3; clear ho3 hb3 hk3)
            | (at_builtin; (refine app_items3 rfl _ _ rfl w.heap.size _ (m + 1) (xs ++ [⟨4, 0, (longkey ++ textS c)⟩]) ys w2.heap.size g2 0 cap2 HO3.out rfl HI3.out rfl HN2.out (by omega) (by omega) (by omega) ?_); intro v4 w4 ho4 hb4 _)
            | fail)
          go_roundw
          case rel => exact ⟨j + 1, a3, m + 1 + ys.length, xs ++ [⟨4, 0, (longkey ++ textS c)⟩] ++ ys, by omega, rfl, by go_num, by have := HM.out; simp; omega, by omega, by omega, Lib.hid ho4, HB3.out.trans hb4, by rw [← HKEY.out]; exact HG3, HG4⟩
          case measure => simp [intOf]; omega
        · have h2' : (j : Int) = 2 := by omega
          have h3' : ¬ (K : Int) / 128 % 2 = 1 := by omega
          have hcst : ((K / 4 % 32 + 20 * j : Nat) : Int) = (K : Int) / 4 % 32 + 40 := by omega
          have hkey : keyI K j = ⟨1, (K : Int) / 4 % 32 + 40, ⟨#[]⟩⟩ := by rw [keyI, if_neg (fun h => hlong h.2), hcst]
          have HKEY := Lib.hid hkey
          rw [hkey] at hkf
          have hkn : (0 : Int) ≤ (K : Int) / 4 % 32 + 40 := hkf.1
          have hkd : (⟨#[]⟩ : ByteArray).size ≤ 100 := none_small
          clear hkey hkf hcst
          have HW := Lib.hid ((Below.refl wr.heap.size wr).alloc (Nat.le_refl _) (.cells #[.int .i64 1, .int .u64 ((K : Int) / 4 % 32 + 40), .string ⟨#[]⟩] 58))
          have BX := Lib.hid (Box.new wr 1 ((K : Int) / 4 % 32 + 40) ⟨#[]⟩)
          go_wp2_with fail
          refine (HK.out _ (HBW.out.trans (HW.out.mono hsz))).mono ?_
          rintro e w2 ⟨v2, rfl, ho2, hb2⟩
          obtain ⟨g2, cap2, hv2, hI2⟩ := row_items (l := ys) ho2 HN2.out HF2.out (by omega)
          subst hv2
          have hr2 := row_block (n := ys.length) ho2
          have hx2 := BX.out.keep hb2
          have hs2 := hb2.size
          have hs1 := HW.out.size
          have HW2 := Lib.hid (HW.out.trans (hb2.mono hs1))
          have HX2 := Lib.hid hx2
          have HI2 := Lib.hid hI2
          have hlx : wr.heap.size < w2.heap.size := hx2.lt
          have HR2 := Lib.hid hr2
          obtain ⟨z0, z1, z2, _, _, _⟩ := hx2.cells
          clear ho2 hb2 hI2 hx2 hr2
          have hit : ItemsAt (w2.alloc (.cells #[.int .i64 1, .int .u64 ((K : Int) / 4 % 32 + 40), .string ⟨#[]⟩] 58)) (w2.heap.size + 1) (.slice (some ⟨w2.heap.size, 0, none⟩) 1 1) [⟨1, ((K : Int) / 4 % 32 + 40), ⟨#[]⟩⟩] := itemsAt_one (by omega) (heap_new w2 _) hkn (Nat.le_trans hkd (by decide))
          have HIT := Lib.hid hit
          clear hit
          go_wp2_with (first
            | (at_builtin; (refine app_items3 rfl _ _ rfl w.heap.size _ m xs [⟨1, ((K : Int) / 4 % 32 + 40), ⟨#[]⟩⟩] (w2.heap.size + 1) w2.heap.size 0 1 ((own_below HO.out HW2.out).alloc _) rfl HIT.out rfl (by simp) (by omega) (by simp) (by simp; omega) ?_); intro v3 w3 ho3 hb3 hk3; have HI3 := Lib.hid ((HI2.out.below ((Below.refl w2.heap.size w2).alloc (Nat.le_refl _) (.cells #[.int .i64 1, .int .u64 ((K : Int) / 4 % 32 + 40), .string ⟨#[]⟩] 58))).moved (hk3 g2 (by have := HR2.out.2; simp; omega) (own_not_new HO.out (by have := HR2.out.1; omega))) (Nat.le_refl _)); have HO3 := Lib.hid ho3; have hs3 := hb3.size; have HB3 := Lib.hid ((HBW.out.trans (HW2.out.mono hsz)).trans (((Below.refl w.heap.size w2).alloc (by omega) (.cells #[.int .i64 1, .int .u64 ((K : Int) / 4 % 32 + 40), .string ⟨#[]⟩] 58)).trans hb3)); rw [heap_alloc_size] at hs3; clear ho3 hb3 hk3)
            | (at_builtin; (refine app_items3 rfl _ _ rfl w.heap.size _ (m + 1) (xs ++ [⟨1, ((K : Int) / 4 % 32 + 40), ⟨#[]⟩⟩]) ys w2.heap.size g2 0 cap2 HO3.out rfl HI3.out rfl HN2.out (by omega) (by omega) (by omega) ?_); intro v4 w4 ho4 hb4 _)
            | fail)
          go_roundw
          case rel => exact ⟨j + 1, a3, m + 1 + ys.length, xs ++ [⟨1, ((K : Int) / 4 % 32 + 40), ⟨#[]⟩⟩] ++ ys, by omega, rfl, by go_num, by have := HM.out; simp; omega, by omega, by omega, Lib.hid ho4, HB3.out.trans hb4, by rw [← HKEY.out]; exact HG3, HG4⟩
          case measure => simp [intOf]; omega
      · have h2' : ¬ (j : Int) = 2 := by omega
        have h3' : True := trivial
        have hcst : ((K / 4 % 32 + 20 * j : Nat) : Int) = (K : Int) / 4 % 32 + 20 * (j : Int) := by omega
        have hkey : keyI K j = ⟨1, (K : Int) / 4 % 32 + 20 * (j : Int), ⟨#[]⟩⟩ := by rw [keyI, if_neg (fun h => h2 h.1), hcst]
        have HKEY := Lib.hid hkey
        rw [hkey] at hkf
        have hkn : (0 : Int) ≤ (K : Int) / 4 % 32 + 20 * (j : Int) := hkf.1
        have hkd : (⟨#[]⟩ : ByteArray).size ≤ 100 := none_small
        clear hkey hkf hcst
        have HW := Lib.hid ((Below.refl wr.heap.size wr).alloc (Nat.le_refl _) (.cells #[.int .i64 1, .int .u64 ((K : Int) / 4 % 32 + 20 * (j : Int)), .string ⟨#[]⟩] 58))
        have BX := Lib.hid (Box.new wr 1 ((K : Int) / 4 % 32 + 20 * (j : Int)) ⟨#[]⟩)
        go_wp2_with fail
        refine (HK.out _ (HBW.out.trans (HW.out.mono hsz))).mono ?_
        rintro e w2 ⟨v2, rfl, ho2, hb2⟩
        obtain ⟨g2, cap2, hv2, hI2⟩ := row_items (l := ys) ho2 HN2.out HF2.out (by omega)
        subst hv2
        have hr2 := row_block (n := ys.length) ho2
        have hx2 := BX.out.keep hb2
        have hs2 := hb2.size
        have hs1 := HW.out.size
        have HW2 := Lib.hid (HW.out.trans (hb2.mono hs1))
        have HX2 := Lib.hid hx2
        have HI2 := Lib.hid hI2
        have hlx : wr.heap.size < w2.heap.size := hx2.lt
        have HR2 := Lib.hid hr2
        obtain ⟨z0, z1, z2, _, _, _⟩ := hx2.cells
        clear ho2 hb2 hI2 hx2 hr2
        have hit : ItemsAt (w2.alloc (.cells #[.int .i64 1, .int .u64 ((K : Int) / 4 % 32 + 20 * (j : Int)), .string ⟨#[]⟩] 58)) (w2.heap.size + 1) (.slice (some ⟨w2.heap.size, 0, none⟩) 1 1) [⟨1, ((K : Int) / 4 % 32 + 20 * (j : Int)), ⟨#[]⟩⟩] := itemsAt_one (by omega) (heap_new w2 _) hkn (Nat.le_trans hkd (by decide))
        have HIT := Lib.hid hit
        clear hit
        go_wp2_with (first
          | (at_builtin; (refine app_items3 rfl _ _ rfl w.heap.size _ m xs [⟨1, ((K : Int) / 4 % 32 + 20 * (j : Int)), ⟨#[]⟩⟩] (w2.heap.size + 1) w2.heap.size 0 1 ((own_below HO.out HW2.out).alloc _) rfl HIT.out rfl (by simp) (by omega) (by simp) (by simp; omega) ?_); intro v3 w3 ho3 hb3 hk3; have HI3 := Lib.hid ((HI2.out.below ((Below.refl w2.heap.size w2).alloc (Nat.le_refl _) (.cells #[.int .i64 1, .int .u64 ((K : Int) / 4 % 32 + 20 * (j : Int)), .string ⟨#[]⟩] 58))).moved (hk3 g2 (by have := HR2.out.2; simp; omega) (own_not_new HO.out (by have := HR2.out.1; omega))) (Nat.le_refl _)); have HO3 := Lib.hid ho3; have hs3 := hb3.size; have HB3 := Lib.hid ((HBW.out.trans (HW2.out.mono hsz)).trans (((Below.refl w.heap.size w2).alloc (by omega) (.cells #[.int .i64 1, .int .u64 ((K : Int) / 4 % 32 + 20 * (j : Int)), .string ⟨#[]⟩] 58)).trans hb3)); rw [heap_alloc_size] at hs3; clear ho3 hb3 hk3)
          | (at_builtin; (refine app_items3 rfl _ _ rfl w.heap.size _ (m + 1) (xs ++ [⟨1, ((K : Int) / 4 % 32 + 20 * (j : Int)), ⟨#[]⟩⟩]) ys w2.heap.size g2 0 cap2 HO3.out rfl HI3.out rfl HN2.out (by omega) (by omega) (by omega) ?_); intro v4 w4 ho4 hb4 _)
          | fail)
        go_roundw
        case rel => exact ⟨j + 1, a3, m + 1 + ys.length, xs ++ [⟨1, ((K : Int) / 4 % 32 + 20 * (j : Int)), ⟨#[]⟩⟩] ++ ys, by omega, rfl, by go_num, by have := HM.out; simp; omega, by omega, by omega, Lib.hid ho4, HB3.out.trans hb4, by rw [← HKEY.out]; exact HG3, HG4⟩
        case measure => simp [intOf]; omega
    · obtain rfl : c = j := by omega
      have hlt2 : ¬ (c : Int) < (c : Int) := by omega
      go_wp2
      go_ret2
      have hg1 := HG.out
      have hg2 := HG2.out
      rw [Nat.sub_self] at hg1 hg2
      simp only [kidsE, List.append_nil] at hg1 hg2
      rw [← hg1, ← hg2]
      have hm := HM.out
      subst hm
      exact ⟨_, rfl, HO.out, HBW.out⟩
end Go.Proofs.YtepinmeidjlmmaaDoor
