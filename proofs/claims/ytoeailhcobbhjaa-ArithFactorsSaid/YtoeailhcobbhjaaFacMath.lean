/- What trial division gives: primes, ascending, whose powers multiply to the number; the square-free part. Nothing of the program. -/
import Derived.Test.YtoeailhcobbhjaaFacNums
import Derived.Test.YtoeailhcobbhjaaPrimeNums
namespace Go.Proofs.Ytoeailhcobbhjaa

/-- The product of a list. -/
def prod : List Nat → Nat
  | [] => 1
  | x :: l => x * prod l
theorem prod_snoc (l : List Nat) (x : Nat) : prod (l ++ [x]) = prod l * x := by
  induction l with
  | nil => simp [prod]
  | cons y l ih => simp only [List.cons_append, prod, ih]; rw [Nat.mul_assoc]
theorem prod_append (l m : List Nat) : prod (l ++ m) = prod l * prod m := by
  induction l with
  | nil => simp [prod]
  | cons y l ih => simp only [List.cons_append, prod, ih]; rw [Nat.mul_assoc]
theorem prod_pos {l : List Nat} (h : ∀ x ∈ l, 1 ≤ x) : 1 ≤ prod l := by
  induction l with
  | nil => exact Nat.le_refl _
  | cons y l ih => exact Nat.mul_le_mul (h y (by simp)) (ih fun x hx => h x (by simp [hx]))
theorem prod_take_le {l : List Nat} (h : ∀ x ∈ l, 1 ≤ x) (k : Nat) : prod (l.take k) ≤ prod l := by
  have e : prod l = prod (l.take k) * prod (l.drop k) := by rw [← prod_append, List.take_append_drop]
  have h1 : 1 ≤ prod (l.drop k) := prod_pos fun x hx => h x (List.mem_of_mem_drop hx)
  rw [e]
  exact Nat.le_mul_of_pos_right _ h1
theorem prod_take_succ {l : List Nat} {k : Nat} (h : k < l.length) : prod (l.take (k + 1)) = prod (l.take k) * l[k] := by
  rw [List.take_succ_eq_append_getElem h, prod_snoc]

theorem clear_strip {d r : Nat} (hd : 2 ≤ d) (hr : 1 ≤ r) (hc : Clear r d) : Clear (strip r d r).2 (d + 1) := by
  have hdv := strip_dvd r d r
  intro e e2 ed em
  by_cases h : e < d
  · exact hc e e2 h (Nat.mod_eq_zero_of_dvd (Nat.dvd_trans (Nat.dvd_of_mod_eq_zero em) hdv))
  · have : e = d := by omega
    subst this
    exact strip_not hd hr (Nat.le_refl _) em
theorem clear_pr {d r : Nat} (hd : 2 ≤ d) (hc : Clear r d) (h : r % d = 0) : Pr d :=
  ⟨hd, fun e e2 es em => by
    have : e * 2 ≤ e * e := Nat.mul_le_mul_left e e2
    exact hc e e2 (by omega) (Nat.mod_eq_zero_of_dvd (Nat.dvd_trans (Nat.dvd_of_mod_eq_zero em) (Nat.dvd_of_mod_eq_zero h)))⟩
theorem strip_pos_div {f d r : Nat} (h : 0 < (strip f d r).1) : r % d = 0 := by
  cases f with
  | zero => simp [strip] at h
  | succ f =>
    by_cases k : r % d = 0
    · exact k
    · rw [strip_miss k] at h; simp at h

/-- The whole of it. -/
structure FacIs (d r : Nat) (F : List (Nat × Nat)) : Prop where
  mem : ∀ p ∈ F, Pr p.1 ∧ d ≤ p.1 ∧ 1 ≤ p.2
  asc : F.Pairwise (fun p q => p.1 < q.1)
  mul : prod (F.map fun p => p.1 ^ p.2) = r
theorem facs_is : ∀ (n d r : Nat), r - d ≤ n → 2 ≤ d → 1 ≤ r → Clear r d → FacIs d r (facs d r) := by
  intro n
  induction n with
  | zero =>
    intro d r hn hd hr hc
    have hs : ¬ d * d ≤ r := by
      intro h
      have : d * 2 ≤ d * d := Nat.mul_le_mul_left d hd
      omega
    rw [facs_big hs]
    split
    · rename_i h1
      have hp := clear_prime h1 hc (by omega)
      have hge : d ≤ r := by
        rcases Nat.lt_or_ge r d with h | h
        · exact absurd (Nat.mod_self r) (hc r h1 h)
        · exact h
      exact ⟨by simp; exact ⟨hp, hge⟩, by simp, by simp [prod]⟩
    · exact ⟨by simp, by simp, by simp [prod]; omega⟩
  | succ n ih =>
    intro d r hn hd hr hc
    by_cases hs : d * d ≤ r
    · have h2 : d * 2 ≤ d * d := Nat.mul_le_mul_left d hd
      rw [facs_step hd hs]
      have hle := (strip_le r d r).1
      obtain ⟨m, a, e⟩ := ih (d + 1) (strip r d r).2 (by omega) (by omega) (strip_pos hd hr) (clear_strip hd hr hc)
      have hmul := strip_mul (f := r) (d := d) (r := r)
      unfold part
      split
      · rename_i hk
        have hp := clear_pr hd hc (strip_pos_div hk)
        refine ⟨?_, ?_, ?_⟩
        · intro p hp'
          rcases List.mem_append.1 hp' with h | h
          · obtain rfl : p = (d, (strip r d r).1) := by simpa using h
            exact ⟨hp, Nat.le_refl _, hk⟩
          · obtain ⟨h1, h2, h3⟩ := m p h
            exact ⟨h1, by omega, h3⟩
        · rw [List.pairwise_append]
          refine ⟨by simp, a, fun p hp' q hq => ?_⟩
          obtain rfl : p = (d, (strip r d r).1) := by simpa using hp'
          have := (m q hq).2.1
          show d < q.1
          omega
        · rw [List.map_append, prod_append, e]
          simp only [List.map_cons, List.map_nil, prod, Nat.mul_one]
          rw [Nat.mul_comm]; exact hmul
      · rename_i hk
        have hk0 : (strip r d r).1 = 0 := by omega
        rw [hk0, Nat.pow_zero, Nat.mul_one] at hmul
        refine ⟨?_, by simpa using a, by simpa [hmul] using e⟩
        intro p hp'
        obtain ⟨h1, h2, h3⟩ := m p (by simpa using hp')
        exact ⟨h1, by omega, h3⟩
    · rw [facs_big hs]
      split
      · rename_i h1
        have hp := clear_prime h1 hc (by omega)
        have hge : d ≤ r := by
          rcases Nat.lt_or_ge r d with h | h
          · exact absurd (Nat.mod_self r) (hc r h1 h)
          · exact h
        exact ⟨by simp; exact ⟨hp, hge⟩, by simp, by simp [prod]⟩
      · exact ⟨by simp, by simp, by simp [prod]; omega⟩
theorem facs_two_is {n : Nat} (hn : 1 ≤ n) : FacIs 2 n (facs 2 n) := facs_is n 2 n (by omega) (by omega) hn (fun e e2 ed => by omega)

/-- The square-free part, and what is squared. -/
def oddOf (p : Nat × Nat) : Nat := if p.2 % 2 = 1 then p.1 else 1
def halfOf (p : Nat × Nat) : Nat := p.1 ^ (p.2 / 2)
def freeOf (F : List (Nat × Nat)) : Nat := prod (F.map oddOf)
def rootOf (F : List (Nat × Nat)) : Nat := prod (F.map halfOf)
theorem pow_parts (p : Nat × Nat) : p.1 ^ p.2 = oddOf p * (halfOf p * halfOf p) := by
  unfold oddOf halfOf
  rw [← Nat.pow_add]
  split
  · rename_i h
    conv => lhs; rw [show p.2 = p.2 / 2 + p.2 / 2 + 1 by omega]
    rw [Nat.pow_succ, Nat.mul_comm]
  · rename_i h
    conv => lhs; rw [show p.2 = p.2 / 2 + p.2 / 2 by omega]
    rw [Nat.one_mul]
theorem parts_mul (F : List (Nat × Nat)) : prod (F.map fun p => p.1 ^ p.2) = freeOf F * (rootOf F * rootOf F) := by
  induction F with
  | nil => rfl
  | cons p F ih =>
    unfold freeOf rootOf at *
    simp only [List.map_cons, prod]
    rw [ih, pow_parts p]
    grind
theorem freeOf_pos {F : List (Nat × Nat)} (h : ∀ p ∈ F, Pr p.1) : 1 ≤ freeOf F ∧ 1 ≤ rootOf F := by
  constructor
  · refine prod_pos fun x hx => ?_
    obtain ⟨p, hp, rfl⟩ := List.mem_map.1 hx
    unfold oddOf
    have := (h p hp).1
    split <;> omega
  · refine prod_pos fun x hx => ?_
    obtain ⟨p, hp, rfl⟩ := List.mem_map.1 hx
    exact Nat.pow_pos (by have := (h p hp).1; omega)

/-- No square but 1 divides it. -/
def Sqf (a : Nat) : Prop := ∀ t, t * t ∣ a → t = 1
theorem Pr.coprime {p x : Nat} (hp : Pr p) (h : ¬ p ∣ x) : Nat.Coprime p x := by
  have h1 := Nat.gcd_dvd_left p x
  by_cases e1 : Nat.gcd p x = 1
  · exact e1
  · by_cases e2 : Nat.gcd p x = p
    · exact absurd (e2 ▸ Nat.gcd_dvd_right p x) h
    · have hpos : 0 < Nat.gcd p x := Nat.gcd_pos_of_pos_left x (by have := hp.1; omega)
      have hle := Nat.le_of_dvd (by have := hp.1; omega) h1
      exact absurd (Nat.mod_eq_zero_of_dvd h1) (hp.div (by omega) (by omega))
theorem Pr.dvd_mul {p x y : Nat} (hp : Pr p) (h : p ∣ x * y) : p ∣ x ∨ p ∣ y := by
  by_cases k : p ∣ x
  · exact .inl k
  · exact .inr ((hp.coprime k).dvd_of_dvd_mul_left h)
theorem pr_of {n : Nat} (h : 1 < n) : ∃ p, Pr p ∧ p ∣ n := by
  by_cases k : Pr n
  · exact ⟨n, k, Nat.dvd_refl _⟩
  · obtain ⟨p, hp, _, hm⟩ := prime_div n h k
    exact ⟨p, hp, Nat.dvd_of_mod_eq_zero hm⟩
theorem sqf_mul {p m : Nat} (hp : Pr p) (h : ¬ p ∣ m) (hm : Sqf m) : Sqf (p * m) := by
  intro t ht
  refine Classical.byContradiction fun hne => ?_
  by_cases t0 : t = 0
  · subst t0
    have hz : p * m = 0 := by simpa using ht
    rcases Nat.mul_eq_zero.1 hz with h0 | h0
    · have := hp.1; omega
    · subst h0; exact h (Nat.dvd_zero _)
  · obtain ⟨q, hq, hqt⟩ := pr_of (n := t) (by omega)
    have hqq : q * q ∣ p * m := Nat.dvd_trans (Nat.mul_dvd_mul hqt hqt) ht
    by_cases e : q = p
    · subst e
      have := Nat.dvd_of_mul_dvd_mul_left (by have := hq.1; omega) hqq
      exact h this
    · have hqp : ¬ q ∣ p := fun hd => by
        have := Nat.le_of_dvd (by have := hp.1; omega) hd
        exact hp.div hq.1 (by omega) (Nat.mod_eq_zero_of_dvd hd)
      have hc : Nat.Coprime (q * q) p := Nat.Coprime.mul_left (hq.coprime hqp) (hq.coprime hqp)
      have h2 : q * q ∣ m := hc.dvd_of_dvd_mul_left hqq
      have := hm q h2
      have := hq.1
      omega
theorem free_not {p : Nat} (hp : Pr p) {F : List (Nat × Nat)} (h : ∀ q ∈ F, Pr q.1 ∧ p < q.1) : ¬ p ∣ freeOf F := by
  unfold freeOf
  induction F with
  | nil =>
    intro hd
    have := Nat.le_of_dvd (by decide) hd
    have := hp.1
    simp [prod] at *
    omega
  | cons q F ih =>
    intro hd
    simp only [List.map_cons, prod] at hd
    rcases hp.dvd_mul hd with h1 | h1
    · obtain ⟨hq, hlt⟩ := h q (by simp)
      unfold oddOf at h1
      split at h1
      · exact hq.div hp.1 hlt (Nat.mod_eq_zero_of_dvd h1)
      · have := Nat.le_of_dvd (by decide) h1
        have := hp.1
        omega
    · exact ih (fun x hx => h x (by simp [hx])) h1
theorem free_sqf {F : List (Nat × Nat)} (h : ∀ q ∈ F, Pr q.1) (ha : F.Pairwise (fun p q => p.1 < q.1)) : Sqf (freeOf F) := by
  induction F with
  | nil =>
    intro t ht
    unfold freeOf prod at ht
    have := Nat.le_of_dvd (by decide) ht
    have h0 : t ≠ 0 := by rintro rfl; simp at ht
    have : t ≤ t * t := Nat.le_mul_of_pos_left t (by omega)
    simp at *
    omega
  | cons q F ih =>
    rw [List.pairwise_cons] at ha
    have ih' := ih (fun x hx => h x (by simp [hx])) ha.2
    show Sqf (oddOf q * freeOf F)
    unfold oddOf
    split
    · exact sqf_mul (h q (by simp)) (free_not (h q (by simp)) (fun x hx => ⟨h x (by simp [hx]), ha.1 x hx⟩)) ih'
    · rw [Nat.one_mul]; exact ih'
/-- The square-free part is determined. -/
theorem sqf_unique {a b c e : Nat} (ha : Sqf a) (hc : Sqf c) (hb : 1 ≤ b) (h : a * (b * b) = c * (e * e)) : a = c ∧ b = e := by
  have hg : 0 < Nat.gcd b e := Nat.gcd_pos_of_pos_left e hb
  obtain ⟨b', hb'⟩ := Nat.gcd_dvd_left b e
  obtain ⟨e', he'⟩ := Nat.gcd_dvd_right b e
  have hco : Nat.Coprime b' e' := by
    have e1 : Nat.gcd (Nat.gcd b e * b') (Nat.gcd b e * e') = Nat.gcd b e * Nat.gcd b' e' := Nat.gcd_mul_left _ _ _
    rw [← hb', ← he'] at e1
    have : Nat.gcd b e * 1 = Nat.gcd b e * Nat.gcd b' e' := by omega
    exact (Nat.eq_of_mul_eq_mul_left hg this).symm
  generalize Nat.gcd b e = g at *
  have h2 : a * (b' * b') = c * (e' * e') := by
    have : (g * g) * (a * (b' * b')) = (g * g) * (c * (e' * e')) := by
      rw [hb', he'] at h
      grind
    exact Nat.eq_of_mul_eq_mul_left (Nat.mul_pos hg hg) this
  have c1 : Nat.Coprime (b' * b') (e' * e') := Nat.Coprime.mul_left (Nat.Coprime.mul_right hco hco) (Nat.Coprime.mul_right hco hco)
  have d1 : b' * b' ∣ c := c1.dvd_of_dvd_mul_right (by rw [← h2]; exact Nat.dvd_mul_left _ _)
  have d2 : e' * e' ∣ a := c1.symm.dvd_of_dvd_mul_right (by rw [h2]; exact Nat.dvd_mul_left _ _)
  have b1 := hc b' d1
  have e1 := ha e' d2
  subst b1
  subst e1
  exact ⟨by simpa using h2, by rw [hb', he']⟩
end Go.Proofs.Ytoeailhcobbhjaa
