/- SipHash-2-4 as plain functions on words of 64 bits, and how the words stand as values. -/
import Derived.WalkKit
namespace Go.Proofs.Ytgoajnljgbcmdaa
open Go.RowKit

/-- a word as an integer -/
def val (x : BitVec 64) : Int := (x.toNat : Int)
theorem val_lo (x : BitVec 64) : 0 ≤ val x := by unfold val; omega
theorem val_hi (x : BitVec 64) : val x ≤ 18446744073709551615 := by unfold val; have := x.isLt; omega
theorem val_inj {x y : BitVec 64} (h : val x = val y) : x = y := by unfold val at h; exact BitVec.eq_of_toNat_eq (by omega)
theorem val_of {z : Int} (h0 : 0 ≤ z) (h1 : z ≤ 18446744073709551615) : z = val (BitVec.ofInt 64 z) := by
  obtain ⟨n, rfl⟩ := Int.eq_ofNat_of_zero_le h0
  unfold val
  rw [BitVec.ofInt_natCast, BitVec.toNat_ofNat]
  omega
theorem ofInt_val (x : BitVec 64) : BitVec.ofInt 64 (val x) = x := by unfold val; rw [BitVec.ofInt_natCast]; simp

theorem val_xor (x y : BitVec 64) : bits .xor .u64 (val x) (val y) = val (x ^^^ y) := by
  unfold val; rw [bits_xor_u64_nat _ _ x.isLt y.isLt, BitVec.toNat_xor]
theorem val_or (x y : BitVec 64) : bits .or .u64 (val x) (val y) = val (x ||| y) := by
  show IntKind.u64.wrap ((BitVec.ofInt 64 (val x) ||| BitVec.ofInt 64 (val y)).toNat : Int) = _
  rw [ofInt_val, ofInt_val, IntKind.wrap_u64]
  have := (x ||| y).isLt
  unfold val; omega
theorem val_add (x y : BitVec 64) : IntKind.u64.wrap (val x + val y) = val (x + y) := by
  rw [IntKind.wrap_u64]; unfold val; rw [BitVec.toNat_add]; omega
theorem val_shl (x : BitVec 64) (n : Nat) : IntKind.u64.wrap (val x * 2 ^ n) = val (x <<< n) := by
  rw [IntKind.wrap_u64]; unfold val
  rw [BitVec.toNat_shiftLeft, Nat.shiftLeft_eq]
  simp
theorem val_shr (x : BitVec 64) (n : Nat) : val x / 2 ^ n = val (x >>> n) := by
  unfold val
  rw [BitVec.toNat_ushiftRight, Nat.shiftRight_eq_div_pow]
  simp

def rotI (x : BitVec 64) (k : Int) : BitVec 64 := x <<< k.toNat ||| x >>> (64 - k.toNat)

structure S4 where
  a : BitVec 64
  b : BitVec 64
  c : BitVec 64
  d : BitVec 64

def sipA (s : S4) : BitVec 64 := rotI (s.a + s.b) 32
def sipB (s : S4) : BitVec 64 := rotI s.b 13 ^^^ (s.a + s.b)
def sipC (s : S4) : BitVec 64 := s.c + s.d
def sipD (s : S4) : BitVec 64 := rotI s.d 16 ^^^ sipC s
def sipA2 (s : S4) : BitVec 64 := sipA s + sipD s
def sipD2 (s : S4) : BitVec 64 := rotI (sipD s) 21 ^^^ sipA2 s
def sipC2 (s : S4) : BitVec 64 := sipC s + sipB s
def sipB2 (s : S4) : BitVec 64 := rotI (sipB s) 17 ^^^ sipC2 s
def sipRound (s : S4) : S4 := ⟨sipA2 s, sipB2 s, rotI (sipC2 s) 32, sipD2 s⟩
def sipRounds : Nat → S4 → S4
  | 0, s => s
  | n + 1, s => sipRound (sipRounds n s)
def sipAbsorb (s : S4) (m : BitVec 64) : S4 :=
  let t := sipRounds 2 ⟨s.a, s.b, s.c, s.d ^^^ m⟩
  ⟨t.a ^^^ m, t.b, t.c, t.d⟩
def sipFinish (s : S4) : BitVec 64 :=
  let t := sipRounds 4 ⟨s.a, s.b, s.c ^^^ 255#64, s.d⟩
  t.a ^^^ t.b ^^^ t.c ^^^ t.d
def sipNew (k0 k1 : BitVec 64) : S4 := ⟨k0 ^^^ 8317987319222330741#64, k1 ^^^ 7237128888997146477#64, k0 ^^^ 7816392313619706465#64, k1 ^^^ 8387220255154660723#64⟩
/-- the byte k of the word at i -/
def sipByte (zs : List Int) (i k : Nat) : BitVec 64 :=
  if i + k < zs.length then BitVec.ofInt 64 (zs.getD (i + k) 0) else if k = 7 then BitVec.ofNat 64 (zs.length % 256) else 0
/-- the word of the first n bytes, the most significant one first, counted down from 7 -/
def sipHorner (zs : List Int) (i : Nat) : Nat → BitVec 64
  | 0 => 0
  | n + 1 => sipHorner zs i n <<< 8 ||| sipByte zs i (7 - n)
def sipWord (zs : List Int) (i : Nat) : BitVec 64 := sipHorner zs i 8
def sipTo (k0 k1 : BitVec 64) (zs : List Int) : Nat → S4
  | 0 => sipNew k0 k1
  | j + 1 => sipAbsorb (sipTo k0 k1 zs j) (sipWord zs (8 * j))
def sipSum (k0 k1 : BitVec 64) (zs : List Int) : BitVec 64 := sipFinish (sipTo k0 k1 zs (zs.length / 8 + 1))

theorem sip_vector : sipSum 506097522914230528 1084818905618843912 [0, 1, 2, 3, 4, 5, 6, 7, 8, 9, 10, 11, 12, 13, 14] = 11613035633349379557 := by decide +kernel

/-- the bytes of a list from the least significant one on -/
def leTo (zs : List Int) : Nat → BitVec 64
  | 0 => 0
  | i + 1 => leTo zs i ||| BitVec.ofInt 64 (zs.getD i 0) <<< (8 * i)

theorem le_mix (c0 c1 c2 c3 c4 c5 c6 c7 : BitVec 64) :
    (0 : BitVec 64) ||| c0 <<< (8 * 0) ||| c1 <<< (8 * 1) ||| c2 <<< (8 * 2) ||| c3 <<< (8 * 3) ||| c4 <<< (8 * 4) ||| c5 <<< (8 * 5) ||| c6 <<< (8 * 6) ||| c7 <<< (8 * 7) =
      ((((((((0 : BitVec 64) <<< 8 ||| c7) <<< 8 ||| c6) <<< 8 ||| c5) <<< 8 ||| c4) <<< 8 ||| c3) <<< 8 ||| c2) <<< 8 ||| c1) <<< 8 ||| c0 := by
  simp only [BitVec.ofNat_eq_ofNat, BitVec.shiftLeft_or_distrib, ← BitVec.shiftLeft_add, BitVec.zero_or, BitVec.zero_shiftLeft, Nat.reduceMul, Nat.reduceAdd, Nat.mul_zero, BitVec.shiftLeft_zero]
  generalize c1 <<< 8 = a1
  generalize c2 <<< 16 = a2
  generalize c3 <<< 24 = a3
  generalize c4 <<< 32 = a4
  generalize c5 <<< 40 = a5
  generalize c6 <<< 48 = a6
  generalize c7 <<< 56 = a7
  ac_rfl
theorem le_full (zs : List Int) (i : Nat) (h : i + 8 ≤ zs.length) : leTo ((zs.drop i).take 8) 8 = sipWord zs i := by
  have e : ∀ k, k < 8 → BitVec.ofInt 64 (((zs.drop i).take 8).getD k 0) = sipByte zs i k := by
    intro k hk
    unfold sipByte
    rw [if_pos (by omega)]
    simp only [List.getD, List.getElem?_take, hk, if_true, List.getElem?_drop]
  simp only [leTo, sipWord, sipHorner]
  rw [e 0 (by omega), e 1 (by omega), e 2 (by omega), e 3 (by omega), e 4 (by omega), e 5 (by omega), e 6 (by omega), e 7 (by omega)]
  clear e h
  exact le_mix _ _ _ _ _ _ _ _

theorem top_byte (n : Nat) : (BitVec.ofNat 64 n) <<< 56 = (BitVec.ofNat 64 (n % 256)) <<< 56 := by
  apply BitVec.eq_of_toNat_eq
  simp only [BitVec.toNat_shiftLeft, BitVec.toNat_ofNat, Nat.shiftLeft_eq]
  omega

theorem le_last (zs : List Int) (j : Nat) (h : 8 * j ≤ zs.length) (h2 : zs.length < 8 * j + 8) :
    leTo (zs.drop (8 * j)) (zs.length - 8 * j) ||| (BitVec.ofNat 64 zs.length) <<< 56 = sipWord zs (8 * j) := by
  obtain ⟨r, hr⟩ : ∃ r, zs.length - 8 * j = r := ⟨_, rfl⟩
  have hr8 : r < 8 := by omega
  have e : ∀ k, k < r → BitVec.ofInt 64 ((zs.drop (8 * j)).getD k 0) = sipByte zs (8 * j) k := by
    intro k hk
    unfold sipByte
    rw [if_pos (by omega)]
    simp only [List.getD, List.getElem?_drop]
  have z : ∀ k, r ≤ k → k < 7 → sipByte zs (8 * j) k = 0 := by
    intro k hk hk7
    unfold sipByte
    rw [if_neg (by omega), if_neg (by omega)]
  have t : sipByte zs (8 * j) 7 = BitVec.ofNat 64 (zs.length % 256) := by
    unfold sipByte
    rw [if_neg (by omega), if_pos rfl]
  rw [hr, top_byte]
  simp only [sipWord, sipHorner, Nat.reduceSub, Nat.sub_zero]
  rw [t]
  have hcase : r = 0 ∨ r = 1 ∨ r = 2 ∨ r = 3 ∨ r = 4 ∨ r = 5 ∨ r = 6 ∨ r = 7 := by omega
  refine Eq.trans ?_ (le_mix _ _ _ _ _ _ _ _)
  clear t hr
  rcases hcase with rfl | rfl | rfl | rfl | rfl | rfl | rfl | rfl
  all_goals simp (disch := omega) only [leTo, e, z]
  all_goals simp only [BitVec.ofNat_eq_ofNat, BitVec.zero_shiftLeft, BitVec.zero_or, BitVec.or_zero, Nat.reduceMul, Nat.mul_zero]
end Go.Proofs.Ytgoajnljgbcmdaa
