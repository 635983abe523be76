/- Plain numbers: Fermat's little theorem, and 2 ^ 61 - 1 is a prime (Lucas's test). -/
import Derived.Lib.Hide
namespace Go.Proofs.Ytampadcdmildfaa

def Prm (p : Nat) : Prop := 2 ≤ p ∧ ∀ d, d ∣ p → d = 1 ∨ d = p
theorem Prm.cop {p a : Nat} (h : Prm p) (ha : ¬ p ∣ a) : Nat.Coprime p a := by
  rcases h.2 _ (Nat.gcd_dvd_left p a) with e | e
  · exact e
  · exact absurd (e ▸ Nat.gcd_dvd_right p a) ha
theorem Prm.euclid {p a b : Nat} (h : Prm p) (hab : p ∣ a * b) : p ∣ a ∨ p ∣ b := by
  by_cases ha : p ∣ a
  · exact .inl ha
  · exact .inr ((h.cop ha).dvd_of_dvd_mul_left hab)
theorem prm_below {p i : Nat} (h0 : 0 < i) (hi : i < p) : ¬ p ∣ i := fun h => by have := Nat.le_of_dvd h0 h; omega

theorem perm_sub : ∀ (l m : List Nat), l.Nodup → (∀ x ∈ l, x ∈ m) → m.length ≤ l.length → l.Perm m
  | [], m, _, _, hl => by
    have : m = [] := List.eq_nil_of_length_eq_zero (by simpa using hl)
    rw [this]
  | x :: t, m, hn, hs, hl => by
    have hx := hs x (List.mem_cons_self ..)
    have hn2 := List.nodup_cons.1 hn
    have hlen := List.length_erase_of_mem hx
    have ht := perm_sub t (m.erase x) hn2.2 (fun y hy => (List.mem_erase_of_ne (by intro e; subst e; exact hn2.1 hy)).2 (hs y (List.mem_cons_of_mem _ hy))) (by simp at hl; omega)
    exact (ht.cons x).trans (List.perm_cons_erase hx).symm
def pr : List Nat → Nat
  | [] => 1
  | x :: t => x * pr t
theorem pr_perm {l m : List Nat} (h : l.Perm m) : pr l = pr m := by
  induction h with
  | nil => rfl
  | cons x _ ih => simp [pr, ih]
  | swap x y l => simp only [pr]; rw [← Nat.mul_assoc, ← Nat.mul_assoc, Nat.mul_comm y x]
  | trans _ _ h1 h2 => exact h1.trans h2
theorem pr_map (a p : Nat) : ∀ l : List Nat, pr (l.map fun i => a * i % p) % p = (a ^ l.length * pr l) % p
  | [] => by simp [pr]
  | x :: t => by
    have ih := pr_map a p t
    simp only [List.map_cons, pr, List.length_cons]
    rw [Nat.mul_mod, ih, Nat.mod_mod, ← Nat.mul_mod]
    congr 1
    rw [Nat.pow_succ]
    simp only [Nat.mul_comm, Nat.mul_left_comm, Nat.mul_assoc]
theorem pr_not {p : Nat} (h : Prm p) : ∀ l : List Nat, (∀ x ∈ l, ¬ p ∣ x) → ¬ p ∣ pr l
  | [], _ => fun hd => by have := Nat.le_of_dvd (by decide) hd; simp [pr] at this; have := h.1; omega
  | x :: t, hl => fun hd => by
    rcases h.euclid hd with h1 | h1
    · exact hl x (List.mem_cons_self ..) h1
    · exact pr_not h t (fun y hy => hl y (List.mem_cons_of_mem _ hy)) h1
theorem one_of_dvd {p x : Nat} (hp : 2 ≤ p) (hx : 1 ≤ x) (h : p ∣ x - 1) : x % p = 1 := by
  obtain ⟨k, hk⟩ := h
  have : x = 1 + p * k := by omega
  rw [this, Nat.add_mul_mod_self_left, Nat.mod_eq_of_lt (by omega)]
theorem fermat {p a : Nat} (h : Prm p) (ha : ¬ p ∣ a) : a ^ (p - 1) % p = 1 := by
  have hp := h.1
  obtain ⟨L, hL⟩ : ∃ L, List.range' 1 (p - 1) = L := ⟨_, rfl⟩
  have hlen : L.length = p - 1 := by rw [← hL]; simp
  have hmem : ∀ x, x ∈ L ↔ 1 ≤ x ∧ x < p := by
    intro x
    rw [← hL, List.mem_range'_1]
    omega
  have hnd : (L.map fun i => a * i % p).Nodup := by
    unfold List.Nodup
    rw [List.pairwise_map]
    have h1 : L.Pairwise (· < ·) := by rw [← hL]; exact List.pairwise_lt_range'
    refine h1.imp_of_mem fun {x y} hx hy hxy e => ?_
    have hx1 := (hmem x).1 hx
    have hy1 := (hmem y).1 hy
    have hd : p ∣ a * y - a * x := Nat.dvd_of_mod_eq_zero (Nat.sub_mod_eq_zero_of_mod_eq e.symm)
    rw [← Nat.mul_sub] at hd
    rcases h.euclid hd with h2 | h2
    · exact ha h2
    · exact prm_below (by omega) (by omega) h2
  have hsub : ∀ x ∈ (L.map fun i => a * i % p), x ∈ L := by
    intro x hx
    obtain ⟨i, hi, rfl⟩ := List.mem_map.1 hx
    have hi1 := (hmem i).1 hi
    refine (hmem _).2 ⟨?_, Nat.mod_lt _ (by omega)⟩
    rcases Nat.eq_zero_or_pos (a * i % p) with h0 | h0
    · rcases h.euclid (Nat.dvd_of_mod_eq_zero h0) with h2 | h2
      · exact absurd h2 ha
      · exact absurd h2 (prm_below (by omega) hi1.2)
    · exact h0
  have hperm := perm_sub _ L hnd hsub (by simp)
  have h1 := pr_map a p L
  rw [pr_perm hperm, hlen] at h1
  have hF : ¬ p ∣ pr L := pr_not h L fun x hx => prm_below ((hmem x).1 hx).1 ((hmem x).1 hx).2
  have ha0 : 0 < a := Nat.pos_of_ne_zero fun e => ha (e ▸ Nat.dvd_zero p)
  have hd : p ∣ a ^ (p - 1) * pr L - pr L := Nat.dvd_of_mod_eq_zero (Nat.sub_mod_eq_zero_of_mod_eq h1.symm)
  have e : a ^ (p - 1) * pr L - pr L = (a ^ (p - 1) - 1) * pr L := by rw [Nat.sub_mul, Nat.one_mul]
  rw [e] at hd
  rcases h.euclid hd with h2 | h2
  · exact one_of_dvd hp (Nat.pow_pos ha0) h2
  · exact absurd h2 hF

theorem pow_mod_mul (g m k r : Nat) (hr : 2 ≤ r) (h : g ^ m % r = 1) : g ^ (m * k) % r = 1 := by
  rw [Nat.pow_mul, Nat.pow_mod, h, Nat.one_pow, Nat.mod_eq_of_lt (by omega)]
theorem pow_gcd (g r : Nat) (hr : 2 ≤ r) (m n : Nat) : g ^ m % r = 1 → g ^ n % r = 1 → g ^ Nat.gcd m n % r = 1 := by
  induction m, n using Nat.gcd.induction with
  | H0 n => intro _ h; simpa using h
  | H1 m n _ ih =>
    intro h1 h2
    rw [Nat.gcd_rec]
    refine ih ?_ h1
    have e := Nat.div_add_mod n m
    rw [← e, Nat.pow_add, Nat.mul_mod, pow_mod_mul g m _ r hr h1, Nat.one_mul, Nat.mod_mod] at h2
    exact h2
theorem prime_factor : ∀ n : Nat, 2 ≤ n → ∃ r, Prm r ∧ r ∣ n := by
  intro n
  induction n using Nat.strongRecOn with
  | ind n ih =>
    intro hn
    by_cases h : ∀ d, d ∣ n → d = 1 ∨ d = n
    · exact ⟨n, ⟨hn, h⟩, Nat.dvd_refl n⟩
    · obtain ⟨d, hd⟩ := Classical.not_forall.1 h
      obtain ⟨hd1, hd2⟩ := Classical.not_imp.1 hd
      have hd3 : d ≠ 1 ∧ d ≠ n := ⟨fun e => hd2 (.inl e), fun e => hd2 (.inr e)⟩
      have hle := Nat.le_of_dvd (by omega) hd1
      have h0 : d ≠ 0 := fun e => by rw [e] at hd1; have := Nat.eq_zero_of_zero_dvd hd1; omega
      obtain ⟨r, hr, hrd⟩ := ih d (by omega) (by omega)
      exact ⟨r, hr, Nat.dvd_trans hrd hd1⟩
theorem cop_pr {m : Nat} : ∀ l : List Nat, (∀ q ∈ l, Nat.Coprime m q) → Nat.Coprime m (pr l)
  | [], _ => by simp [pr]
  | x :: t, h => Nat.Coprime.mul_right (h x (List.mem_cons_self ..)) (cop_pr t fun y hy => h y (List.mem_cons_of_mem _ hy))
/-- Lucas's test -/
theorem lucas (N g : Nat) (qs : List Nat) (hN : 3 ≤ N) (h1 : g ^ (N - 1) % N = 1) (hp : ∀ q ∈ qs, Prm q) (hpr : pr qs = N - 1)
    (hq : ∀ q ∈ qs, Nat.gcd (g ^ ((N - 1) / q) % N + (N - 1)) N = 1) : Prm N := by
  have hdiv : ∀ q ∈ qs, q ∣ N - 1 := by
    rw [← hpr]
    clear hp hq hpr
    induction qs with
    | nil => intro q hq; cases hq
    | cons x t ih =>
      intro q hq
      rcases List.mem_cons.1 hq with rfl | hq
      · exact Nat.dvd_mul_right _ _
      · exact Nat.dvd_trans (ih q hq) (Nat.dvd_mul_left _ _)
  have key : ∀ r, Prm r → r ∣ N → r = N := by
    intro r hr hrN
    have hr2 := hr.1
    have hle := Nat.le_of_dvd (by omega) hrN
    rcases Nat.lt_or_ge r N with hlt | hge
    · exfalso
      have hg1 : g ^ (N - 1) % r = 1 := by rw [← Nat.mod_mod_of_dvd _ hrN, h1, Nat.mod_eq_of_lt (by omega)]
      have hgr : ¬ r ∣ g := by
        intro hd
        have : g ^ (N - 1) % r = 0 := Nat.mod_eq_zero_of_dvd (Nat.dvd_trans hd ⟨g ^ (N - 2), by rw [show N - 1 = N - 2 + 1 by omega, Nat.pow_succ, Nat.mul_comm]⟩)
        omega
      have hg2 := fermat hr hgr
      have hg3 := pow_gcd g r hr2 _ _ hg1 hg2
      obtain ⟨d, hd⟩ : ∃ d, Nat.gcd (N - 1) (r - 1) = d := ⟨_, rfl⟩
      rw [hd] at hg3
      have hdN : d ∣ N - 1 := hd ▸ Nat.gcd_dvd_left _ _
      have hdr : d ≤ r - 1 := Nat.le_of_dvd (by omega) (hd ▸ Nat.gcd_dvd_right _ _)
      obtain ⟨m, hm⟩ := hdN
      have hm1 : m ≠ 1 := fun e => by rw [e] at hm; omega
      have hmN : m ∣ N - 1 := ⟨d, by rw [hm, Nat.mul_comm]⟩
      have hex : ∃ q ∈ qs, q ∣ m := by
        refine Classical.byContradiction fun hno => hm1 ?_
        have hc : Nat.Coprime m (N - 1) := by
          rw [← hpr]
          refine cop_pr qs fun q hq => ?_
          exact ((hp q hq).cop fun hd => hno ⟨q, hq, hd⟩).symm
        exact Nat.Coprime.eq_one_of_dvd hc hmN
      obtain ⟨q, hqs, k, hk⟩ := hex
      have hq2 := (hp q hqs).1
      have e : (N - 1) / q = d * k := by
        rw [hm, hk, show d * (q * k) = q * (d * k) by rw [Nat.mul_left_comm], Nat.mul_div_cancel_left _ (by omega)]
      have hg4 := pow_mod_mul g d k r hr2 hg3
      rw [← e] at hg4
      have hx : g ^ ((N - 1) / q) % N % r = 1 := by rw [Nat.mod_mod_of_dvd _ hrN]; exact hg4
      have hdd : r ∣ g ^ ((N - 1) / q) % N + (N - 1) := by
        obtain ⟨c, hc⟩ := hrN
        refine Nat.dvd_of_mod_eq_zero ?_
        generalize g ^ ((N - 1) / q) % N = x at *
        have hx2 : x = r * (x / r) + 1 := by have := Nat.div_add_mod x r; omega
        have : x + (N - 1) = r * (x / r + c) := by rw [Nat.mul_add, ← hc]; omega
        rw [this, Nat.mul_mod_right]
      have := Nat.dvd_gcd hdd hrN
      rw [hq q hqs] at this
      have := Nat.le_of_dvd (by decide) this
      omega
    · omega
  refine ⟨by omega, fun d hd => ?_⟩
  by_cases hd1 : d = 1
  · exact .inl hd1
  · right
    have h0 : d ≠ 0 := fun e => by rw [e] at hd; have := Nat.eq_zero_of_zero_dvd hd; omega
    obtain ⟨r, hr, hrd⟩ := prime_factor d (by omega)
    have := key r hr (Nat.dvd_trans hrd hd)
    have h2 := Nat.le_of_dvd (by omega) hrd
    have h3 := Nat.le_of_dvd (by omega) hd
    omega
end Go.Proofs.Ytampadcdmildfaa
