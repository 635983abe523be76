import Derived.Test.YtepinmeidjlmmaaDoorE7
namespace Go.Proofs.YtepinmeidjlmmaaDoor
open Go.RowKit

def lastAt (l : List It) (i : Nat) : ByteArray := match l[i]? with
  | some x => bytesS x.k x.n x.d
  | none => ⟨#[]⟩
/-- the reference's loop over the parts of an array or a map -/
def loopE (W : Nat → Bool → ByteArray → Nat × Int) (l : List It) (mp : Bool) : Nat → Nat → ByteArray → Nat × Int
  | 0, a, _ => (a, 0)
  | c + 1, a, last =>
    if mp = true then
      if (W a true last).2 ≠ 0 then W a true last
      else if (W (W a true last).1 false ⟨#[]⟩).2 ≠ 0 then W (W a true last).1 false ⟨#[]⟩
      else loopE W l mp c (W (W a true last).1 false ⟨#[]⟩).1 (lastAt l a)
    else
      if (W a false ⟨#[]⟩).2 ≠ 0 then W a false ⟨#[]⟩ else loopE W l mp c (W a false ⟨#[]⟩).1 last
/-- the reference's walk over a data item: the index behind it, and its error -/
def walkE : Nat → List It → Nat → Nat → Bool → ByteArray → Nat × Int
  | 0, _, a, _, _, _ => (a, 5)
  | f + 1, l, a, dep, key, bf =>
    match l[a]? with
    | none => (a, 1)
    | some x =>
      if checkRE a dep key bf x.k x.n x.d ≠ 0 then (a, checkRE a dep key bf x.k x.n x.d)
      else if x.k = 5 ∨ x.k = 6 then loopE (fun a2 k2 b2 => walkE f l a2 (dep + 1) k2 b2) l (x.k == 6) x.n.toNat (a + 1) ⟨#[]⟩
      else (a + 1, 0)

abbrev WalkPost (w : World) (r : Nat × Int) (e : Ending) (w' : World) : Prop := e = .returned (.tuple #[.int .i64 r.1, .int .i64 r.2]) ∧ Below w.heap.size w w'

set_option maxRecDepth 100000 in
set_option maxHeartbeats 400000 in
theorem walk_end (a : Option Addr) (len cap : Nat) (at_ dep : Nat) (key : Bool) (bf : ByteArray) (w : World) (h : len ≤ at_) :
    Calls Tryd.prog 42 #[.slice a len cap, .int .i64 at_, .int .i64 dep, .bool key, .string bf] w (WalkPost w (at_, 1)) := by
  have h1 : (len : Int) ≤ (at_ : Int) := by omega
  go_enter Tryd.func42, Tryd.ntmps42
  go_wp2
  go_ret2
  exact ⟨rfl, Below.refl _ _⟩

set_option maxRecDepth 100000 in
set_option maxHeartbeats 400000 in
theorem walk_bad (b off len cap : Nat) (at_ dep : Nat) (key : Bool) (bf : ByteArray) (k n : Int) (d : ByteArray) (w : World) (h : at_ < len) (hlen : len ≤ 1000000000000000) (ht : Tabs w) (hn0 : 0 ≤ n)
    (q0 : w.cell? ⟨b, off + at_ * 3, none⟩ = some (.int .i64 k)) (q1 : w.cell? ⟨b, off + at_ * 3 + 1, none⟩ = some (.int .u64 n)) (q2 : w.cell? ⟨b, off + at_ * 3 + 2, none⟩ = some (.string d))
    (r : Int) (hr : checkRE at_ dep key bf k n d = r) (hr0 : r ≠ 0) :
    Calls Tryd.prog 42 #[.slice (some ⟨b, off, none⟩) len cap, .int .i64 at_, .int .i64 dep, .bool key, .string bf] w (WalkPost w (at_, r)) := by
  have h1 : (at_ : Int) < (len : Int) := by omega
  have h2 : (0 : Int) ≤ (at_ : Int) := by omega
  have HB0 := Lib.hid ((Below.refl w.heap.size w).alloc (Nat.le_refl _) (.cells #[.int .i64 k, .int .u64 n, .string d] 58))
  have HK := Lib.hid (fun (W : World) (hW : Below w.heap.size w W) => show Calls Tryd.prog 61 #[itemV k n d, .int .i64 at_, .int .i64 dep, .bool key, .string bf] W (CheckPost W r) by have := checkR_any at_ dep key bf k n d W hn0 (ht.later hW); rwa [hr] at this)
  clear ht hr
  go_enter Tryd.func42, Tryd.ntmps42
  go_wp2_with (go_at_call 61; refine (HK.out _ (by exact HB0.out)).mono ?_; rintro e w1 ⟨rfl, hb1⟩)
  go_ret2
  exact ⟨rfl, below_aft HB0.out hb1⟩

end Go.Proofs.YtepinmeidjlmmaaDoor
