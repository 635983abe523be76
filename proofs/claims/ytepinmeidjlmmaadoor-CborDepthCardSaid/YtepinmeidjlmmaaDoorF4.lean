import Derived.Test.YtepinmeidjlmmaaDoorF3
namespace Go.Proofs.YtepinmeidjlmmaaDoor
open Go.RowKit

def doneAt (l : List It) (s : List Lv) (a : Nat) : List Lv := match l[a]? with
  | some x => popAll (lessS (keyS s x.k x.n x.d))
  | none => []
def fin (l : List It) (s : List Lv) (a : Nat) (r : Nat × Int) : Int := if r.2 ≠ 0 then r.2 else validGo r.1 (doneAt l s a) (l.drop r.1)
def finL (l : List It) (rest : List Lv) (r : Nat × Int) : Int := if r.2 ≠ 0 then r.2 else validGo r.1 (popAll rest) (l.drop r.1)

theorem loop_arr (l : List It) (f dep : Nat) (H : ∀ (a : Nat) (s : List Lv) (bf : ByteArray), s.length = dep + 1 → compB a s = false → KeyRel s bf → validGo a s (l.drop a) = fin l s a (walkE (f + 1) l a (dep + 1) (atKeyB s) bf)) :
    ∀ (c a : Nat) (lv : Lv) (rest : List Lv) (last : ByteArray), lv.mp = false → lv.mi = (c : Int) + 1 → rest.length = dep →
      validGo a (lv :: rest) (l.drop a) = finL l rest (loopE (fun a2 k2 b2 => walkE (f + 1) l a2 (dep + 1) k2 b2) l false (c + 1) a last) := by
  intro c
  induction c with
  | zero =>
    intro a lv rest last hmp hmi hlen
    have hk : atKeyB (lv :: rest) = false := by simp [atKeyB, hmp]
    rw [H a (lv :: rest) ⟨#[]⟩ (by simp [hlen]) (by simp [compB]) (fun h => by rw [hk] at h; cases h), hk]
    by_cases he : (walkE (f + 1) l a (dep + 1) false ⟨#[]⟩).2 = 0
    · obtain ⟨x, hx, _⟩ := walkE_ok he
      simp only [fin, finL, loopE, doneAt, hx, he]
      rw [keyS_no hk]
      simp [lessS, popAll, Lv.less, hmi]
    · simp [fin, finL, loopE, he]
  | succ c ih =>
    intro a lv rest last hmp hmi hlen
    have hk : atKeyB (lv :: rest) = false := by simp [atKeyB, hmp]
    rw [H a (lv :: rest) ⟨#[]⟩ (by simp [hlen]) (by simp [compB]) (fun h => by rw [hk] at h; cases h), hk]
    by_cases he : (walkE (f + 1) l a (dep + 1) false ⟨#[]⟩).2 = 0
    · obtain ⟨x, hx, _⟩ := walkE_ok he
      have e1 : doneAt l (lv :: rest) a = lv.less :: rest := by
        simp only [doneAt, hx]
        rw [keyS_no hk]
        simp only [lessS, popAll, Lv.less, hmi]
        rw [if_neg (by omega)]
      have e2 : fin l (lv :: rest) a (walkE (f + 1) l a (dep + 1) false ⟨#[]⟩) = validGo (walkE (f + 1) l a (dep + 1) false ⟨#[]⟩).1 (lv.less :: rest) (l.drop (walkE (f + 1) l a (dep + 1) false ⟨#[]⟩).1) := by
        unfold fin; rw [if_neg (by simp [he]), e1]
      rw [e2, ih _ lv.less rest last hmp (by simp only [Lv.less, hmi]; omega) hlen]
      conv => rhs; rw [loopE]
      simp [he]
    · conv => rhs; rw [loopE]
      simp [fin, finL, he]

theorem loop_map (l : List It) (f dep : Nat) (H : ∀ (a : Nat) (s : List Lv) (bf : ByteArray), s.length = dep + 1 → compB a s = false → KeyRel s bf → validGo a s (l.drop a) = fin l s a (walkE (f + 1) l a (dep + 1) (atKeyB s) bf)) :
    ∀ (c a : Nat) (lv : Lv) (rest : List Lv) (last : ByteArray), lv.mp = true → lv.mi = 2 * ((c : Int) + 1) → rest.length = dep → lv.lk ≤ 6 → ((lv.lk = 0 ∧ last.toList.isEmpty = true) ∨ (lv.lk ≠ 0 ∧ last = bytesS lv.lk lv.ln lv.ld)) →
      validGo a (lv :: rest) (l.drop a) = finL l rest (loopE (fun a2 k2 b2 => walkE (f + 1) l a2 (dep + 1) k2 b2) l true (c + 1) a last) := by
  intro c
  induction c with
  | zero =>
    intro a lv rest last hmp hmi hlen hl6 hrel
    have hk : atKeyB (lv :: rest) = true := by simp [atKeyB, hmp, hmi]
    rw [H a (lv :: rest) last (by simp [hlen]) (by simp [compB]) (fun _ => ⟨lv, rest, rfl, hl6, hrel⟩), hk]
    by_cases he : (walkE (f + 1) l a (dep + 1) true last).2 = 0
    · obtain ⟨x, hx, hcx⟩ := walkE_ok he
      have e1 : doneAt l (lv :: rest) a = (lv.key x.k x.n x.d).less :: rest := by
        simp only [doneAt, hx]
        rw [keyS_yes hk]
        simp only [lessS, popAll, Lv.less, Lv.key, hmi]
        rw [if_neg (by omega)]
      have hk2 : atKeyB ((lv.key x.k x.n x.d).less :: rest) = false := by simp [atKeyB, Lv.less, Lv.key, hmi]
      have e2 : fin l (lv :: rest) a (walkE (f + 1) l a (dep + 1) true last) = validGo (walkE (f + 1) l a (dep + 1) true last).1 ((lv.key x.k x.n x.d).less :: rest) (l.drop (walkE (f + 1) l a (dep + 1) true last).1) := by
        unfold fin; rw [if_neg (by simp [he]), e1]
      rw [e2]
      generalize hr : walkE (f + 1) l a (dep + 1) true last = r at he
      rw [H r.1 _ ⟨#[]⟩ (by simp [hlen]) (by simp [compB]) (fun h => by rw [hk2] at h; cases h), hk2]
      by_cases he2 : (walkE (f + 1) l r.1 (dep + 1) false ⟨#[]⟩).2 = 0
      · obtain ⟨y, hy, _⟩ := walkE_ok he2
        have e3 : doneAt l ((lv.key x.k x.n x.d).less :: rest) r.1 = popAll rest := by
          simp only [doneAt, hy]
          rw [keyS_no hk2]
          simp only [lessS, popAll, Lv.less, Lv.key, hmi]
          rw [if_pos (by omega)]
        unfold fin
        rw [if_neg (by simp [he2]), e3]
        simp [finL, loopE, hr, he, he2]
      · simp [fin, finL, loopE, hr, he, he2]
    · simp [fin, finL, loopE, he]
  | succ c ih =>
    intro a lv rest last hmp hmi hlen hl6 hrel
    have hk : atKeyB (lv :: rest) = true := by simp [atKeyB, hmp, hmi]
    rw [H a (lv :: rest) last (by simp [hlen]) (by simp [compB]) (fun _ => ⟨lv, rest, rfl, hl6, hrel⟩), hk]
    by_cases he : (walkE (f + 1) l a (dep + 1) true last).2 = 0
    · obtain ⟨x, hx, hcx⟩ := walkE_ok he
      obtain ⟨_, z2, _, _, z5, _⟩ := checkR_zero hcx
      have hck := z5 rfl
      have hx6 : x.k ≤ 6 := by simp [canKeyB] at hck; omega
      have e1 : doneAt l (lv :: rest) a = (lv.key x.k x.n x.d).less :: rest := by
        simp only [doneAt, hx]
        rw [keyS_yes hk]
        simp only [lessS, popAll, Lv.less, Lv.key, hmi]
        rw [if_neg (by omega)]
      have hk2 : atKeyB ((lv.key x.k x.n x.d).less :: rest) = false := by
        have : (2 * ((c : Int) + 1 + 1) - 1) % 2 ≠ 0 := by omega
        simp [atKeyB, Lv.less, Lv.key, hmi, this]
      have e2 : fin l (lv :: rest) a (walkE (f + 1) l a (dep + 1) true last) = validGo (walkE (f + 1) l a (dep + 1) true last).1 ((lv.key x.k x.n x.d).less :: rest) (l.drop (walkE (f + 1) l a (dep + 1) true last).1) := by
        unfold fin; rw [if_neg (by simp [he]), e1]
      rw [e2]
      have hla : lastAt l a = bytesS x.k x.n x.d := by simp [lastAt, hx]
      generalize hr : walkE (f + 1) l a (dep + 1) true last = r at he
      rw [H r.1 _ ⟨#[]⟩ (by simp [hlen]) (by simp [compB]) (fun h => by rw [hk2] at h; cases h), hk2]
      by_cases he2 : (walkE (f + 1) l r.1 (dep + 1) false ⟨#[]⟩).2 = 0
      · obtain ⟨y, hy, _⟩ := walkE_ok he2
        have e3 : doneAt l ((lv.key x.k x.n x.d).less :: rest) r.1 = (lv.key x.k x.n x.d).less.less :: rest := by
          simp only [doneAt, hy]
          rw [keyS_no hk2]
          simp only [lessS, popAll, Lv.less, Lv.key, hmi]
          rw [if_neg (by omega)]
        unfold fin
        rw [if_neg (by simp [he2]), e3]
        rw [ih _ (lv.key x.k x.n x.d).less.less rest (bytesS x.k x.n x.d) hmp (by simp only [Lv.less, Lv.key, hmi]; omega) hlen hx6 (.inr ⟨by show x.k ≠ 0; omega, rfl⟩)]
        conv => rhs; rw [loopE]
        simp [hr, he, he2, hla]
      · conv => rhs; rw [loopE]
        simp [fin, finL, hr, he, he2]
    · conv => rhs; rw [loopE]
      simp [fin, finL, he]

end Go.Proofs.YtepinmeidjlmmaaDoor
