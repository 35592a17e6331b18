/- Plain mathematics of factorizations and lists of divisors (out of wip/arith). -/
namespace Go.Proofs.Ytlagljnhbhnelaa


/-- n has no divisor from 2 on whose square is at most n, and is above 1. -/
def Pr (n : Nat) : Prop := 1 < n ∧ ∀ d, 2 ≤ d → d * d ≤ n → n % d ≠ 0
theorem small_div {n d : Nat} (hn : 1 < n) (h2 : 2 ≤ d) (hd : d < n) (h : n % d = 0) : ∃ e, 2 ≤ e ∧ e * e ≤ n ∧ n % e = 0 := by
  by_cases hs : d * d ≤ n
  · exact ⟨d, h2, hs, h⟩
  · obtain ⟨q, hq⟩ := Nat.dvd_of_mod_eq_zero h
    have hq0 : q ≠ 0 := by rintro rfl; omega
    have hq1 : q ≠ 1 := by rintro rfl; omega
    have hqd : q < d := by
      rcases Nat.lt_or_ge q d with h' | h'
      · exact h'
      · have := Nat.mul_le_mul_left d h'; omega
    refine ⟨q, by omega, ?_, ?_⟩
    · have := Nat.mul_le_mul_right q (Nat.le_of_lt hqd); omega
    · exact Nat.mod_eq_zero_of_dvd ⟨d, by rw [hq, Nat.mul_comm]⟩
/-- A prime has no divisor between. -/
theorem Pr.div {n d : Nat} (h : Pr n) (h2 : 2 ≤ d) (hd : d < n) : n % d ≠ 0 := fun e => by
  obtain ⟨q, q2, qs, qm⟩ := small_div h.1 h2 hd e
  exact h.2 q q2 qs qm
instance (n : Nat) : Decidable (Pr n) :=
  decidable_of_iff (1 < n ∧ ∀ d, d < n → 2 ≤ d → d * d ≤ n → n % d ≠ 0) ⟨fun ⟨h, k⟩ => ⟨h, fun d h2 hs => by
    refine k d ?_ h2 hs
    have : d * 2 ≤ d * d := Nat.mul_le_mul_left d h2
    omega⟩, fun ⟨h, k⟩ => ⟨h, fun d _ h2 hs => k d h2 hs⟩⟩
def prB (n : Nat) : Bool := decide (Pr n)
theorem prB_true {n : Nat} (h : Pr n) : prB n = true := decide_eq_true h
theorem prB_false {n : Nat} (h : ¬ Pr n) : prB n = false := decide_eq_false h

/-- Every number from 2 on has a prime divisor, whose square is at most the number if that is no prime. -/
theorem prime_div : ∀ n, 1 < n → ¬ Pr n → ∃ p, Pr p ∧ p * p ≤ n ∧ n % p = 0 := by
  intro n
  induction n using Nat.strongRecOn with
  | ind n ih =>
    intro hn hp
    have : ∃ e, 2 ≤ e ∧ e * e ≤ n ∧ n % e = 0 := by
      refine Classical.byContradiction fun h => hp ⟨hn, fun d h2 hs e => h ⟨d, h2, hs, e⟩⟩
    obtain ⟨e, e2, es, em⟩ := this
    by_cases hpe : Pr e
    · exact ⟨e, hpe, es, em⟩
    · have hen : e < n := by
        have : e * 2 ≤ e * e := Nat.mul_le_mul_left e e2
        omega
      obtain ⟨p, hp1, hp2, hp3⟩ := ih e hen e2 hpe
      exact ⟨p, hp1, by have : e * 2 ≤ e * e := Nat.mul_le_mul_left e e2; omega, Nat.mod_eq_zero_of_dvd (Nat.dvd_trans (Nat.dvd_of_mod_eq_zero hp3) (Nat.dvd_of_mod_eq_zero em))⟩

/-- The wheel of leastPrime: no divisor below d, for d one less than a multiple of 6. -/
def Clear (n d : Nat) : Prop := ∀ e, 2 ≤ e → e < d → n % e ≠ 0
theorem wheel {n d : Nat} (h : Clear n d) (hd : 5 ≤ d) (h6 : d % 6 = 5) (h1 : n % d ≠ 0) (h2 : n % (d + 2) ≠ 0) : Clear n (d + 6) := by
  intro e e2 ed
  by_cases hlt : e < d
  · exact h e e2 hlt
  · have : e = d ∨ e = d + 1 ∨ e = d + 2 ∨ e = d + 3 ∨ e = d + 4 ∨ e = d + 5 := by omega
    rcases this with rfl | rfl | rfl | rfl | rfl | rfl
    · exact h1
    · intro e; exact h 2 (by omega) (by omega) (Nat.mod_eq_zero_of_dvd (Nat.dvd_trans (Nat.dvd_of_mod_eq_zero (by omega)) (Nat.dvd_of_mod_eq_zero e)))
    · exact h2
    · intro e; exact h 2 (by omega) (by omega) (Nat.mod_eq_zero_of_dvd (Nat.dvd_trans (Nat.dvd_of_mod_eq_zero (by omega)) (Nat.dvd_of_mod_eq_zero e)))
    · intro e; exact h 3 (by omega) (by omega) (Nat.mod_eq_zero_of_dvd (Nat.dvd_trans (Nat.dvd_of_mod_eq_zero (by omega)) (Nat.dvd_of_mod_eq_zero e)))
    · intro e; exact h 2 (by omega) (by omega) (Nat.mod_eq_zero_of_dvd (Nat.dvd_trans (Nat.dvd_of_mod_eq_zero (by omega)) (Nat.dvd_of_mod_eq_zero e)))
theorem clear_start {n : Nat} (h2 : n % 2 ≠ 0) (h3 : n % 3 ≠ 0) : Clear n 5 := by
  intro e e2 e5
  have : e = 2 ∨ e = 3 ∨ e = 4 := by omega
  rcases this with rfl | rfl | rfl
  · exact h2
  · exact h3
  · omega
theorem clear_prime {n d : Nat} (hn : 1 < n) (h : Clear n d) (hs : n < d * d) : Pr n := by
  refine ⟨hn, fun e e2 es => h e e2 ?_⟩
  rcases Nat.lt_or_ge e d with h' | h'
  · exact h'
  · have := Nat.mul_le_mul h' h'; omega


/-- How often d divides r, and what is left. -/
def strip : Nat → Nat → Nat → Nat × Nat
  | 0, _, r => (0, r)
  | f + 1, d, r => if r % d = 0 then ((strip f d (r / d)).1 + 1, (strip f d (r / d)).2) else (0, r)
theorem strip_hit {f d r : Nat} (h : r % d = 0) : strip (f + 1) d r = ((strip f d (r / d)).1 + 1, (strip f d (r / d)).2) := by simp [strip, h]
theorem strip_miss {f d r : Nat} (h : r % d ≠ 0) : strip (f + 1) d r = (0, r) := by simp [strip, h]
theorem div_small {d r f : Nat} (hd : 2 ≤ d) (hr : 1 ≤ r) (hf : r ≤ f + 1) : r / d ≤ f := by
  have := Nat.div_lt_self (show 0 < r by omega) (show 1 < d by omega)
  omega
theorem div_one_le {d r : Nat} (hd : 2 ≤ d) (hr : 1 ≤ r) (h : r % d = 0) : 1 ≤ r / d :=
  Nat.div_pos (Nat.le_of_dvd (by omega) (Nat.dvd_of_mod_eq_zero h)) (by omega)
theorem strip_le (f d r : Nat) : (strip f d r).2 ≤ r ∧ ((strip f d r).1 ≤ f) := by
  induction f generalizing r with
  | zero => simp [strip]
  | succ f ih =>
    by_cases h : r % d = 0
    · rw [strip_hit h]
      have := ih (r / d)
      have := Nat.div_le_self r d
      dsimp only
      omega
    · rw [strip_miss h]
      simp
theorem strip_pos {f d r : Nat} (hd : 2 ≤ d) (hr : 1 ≤ r) : 1 ≤ (strip f d r).2 := by
  induction f generalizing r with
  | zero => simpa [strip]
  | succ f ih =>
    by_cases h : r % d = 0
    · rw [strip_hit h]; exact ih (div_one_le hd hr h)
    · rw [strip_miss h]; exact hr
theorem strip_dvd (f d r : Nat) : (strip f d r).2 ∣ r := by
  induction f generalizing r with
  | zero => simp [strip]
  | succ f ih =>
    by_cases h : r % d = 0
    · rw [strip_hit h]; exact Nat.dvd_trans (ih _) (Nat.div_dvd_of_dvd (Nat.dvd_of_mod_eq_zero h))
    · rw [strip_miss h]; exact Nat.dvd_refl _
theorem strip_not {f d r : Nat} (hd : 2 ≤ d) (hr : 1 ≤ r) (hf : r ≤ f) : (strip f d r).2 % d ≠ 0 := by
  induction f generalizing r with
  | zero => omega
  | succ f ih =>
    by_cases h : r % d = 0
    · rw [strip_hit h]; exact ih (div_one_le hd hr h) (div_small hd hr hf)
    · rw [strip_miss h]; exact h
theorem strip_mul {f d r : Nat} : (strip f d r).2 * d ^ (strip f d r).1 = r := by
  induction f generalizing r with
  | zero => simp [strip]
  | succ f ih =>
    by_cases h : r % d = 0
    · rw [strip_hit h]
      have := ih (r := r / d)
      dsimp only
      rw [Nat.pow_succ, ← Nat.mul_assoc, this]
      exact Nat.div_mul_cancel (Nat.dvd_of_mod_eq_zero h)
    · rw [strip_miss h]; simp
theorem strip_self {r : Nat} (hr : 2 ≤ r) : strip r r r = (1, 1) := by
  obtain ⟨f, rfl⟩ : ∃ f, r = f + 2 := ⟨r - 2, by omega⟩
  rw [strip_hit (by simp), Nat.div_self (by omega), strip_miss (by rw [Nat.mod_eq_of_lt (by omega)]; omega)]

/-- The part of a factorization that one divisor gives. -/
def part (d k : Nat) : List (Nat × Nat) := if 0 < k then [(d, k)] else []
/-- The factorization of r by trial division from d on. -/
def facFrom : Nat → Nat → Nat → List (Nat × Nat)
  | 0, _, _ => []
  | f + 1, d, r => if d * d ≤ r then part d (strip r d r).1 ++ facFrom f (d + 1) (strip r d r).2 else if 1 < r then [(r, 1)] else []
def fac (n : Nat) : List (Nat × Nat) := facFrom (n + 1) 2 n

theorem facFrom_big {f d r : Nat} (h : ¬ d * d ≤ r) : facFrom (f + 1) d r = if 1 < r then [(r, 1)] else [] := by simp [facFrom, h]
theorem facFrom_step {f d r : Nat} (h : d * d ≤ r) : facFrom (f + 1) d r = part d (strip r d r).1 ++ facFrom f (d + 1) (strip r d r).2 := by simp [facFrom, h]
/-- More fuel changes nothing. -/
theorem facFrom_fuel {f g d r : Nat} (hd : 2 ≤ d) (hf : r + 2 ≤ f + d) (hf1 : 1 ≤ f) (hg : r + 2 ≤ g + d) (hg1 : 1 ≤ g) : facFrom f d r = facFrom g d r := by
  induction f generalizing g d r with
  | zero => omega
  | succ f ih =>
    obtain ⟨g, rfl⟩ : ∃ g', g = g' + 1 := ⟨g - 1, by omega⟩
    by_cases h : d * d ≤ r
    · rw [facFrom_step h, facFrom_step h]
      have h1 : d * 2 ≤ d * d := Nat.mul_le_mul (Nat.le_refl _) hd
      have := (strip_le r d r).1
      rw [ih (g := g) (by omega) (by omega) (by omega) (by omega) (by omega)]
    · rw [facFrom_big h, facFrom_big h]
theorem facFrom_enough {f d r : Nat} (hd : 2 ≤ d) (hf : r + 2 ≤ f + d) (hf1 : 1 ≤ f) : facFrom f d r = facFrom (r + 2) d r := facFrom_fuel hd hf hf1 (by omega) (by omega)
/-- The factorization from d on. -/
def facs (d r : Nat) : List (Nat × Nat) := facFrom (r + 2) d r
theorem facs_big {d r : Nat} (h : ¬ d * d ≤ r) : facs d r = if 1 < r then [(r, 1)] else [] := facFrom_big h
theorem facs_step {d r : Nat} (hd : 2 ≤ d) (h : d * d ≤ r) : facs d r = part d (strip r d r).1 ++ facs (d + 1) (strip r d r).2 := by
  unfold facs
  rw [facFrom_step h]
  have := (strip_le r d r).1
  have h1 : d * 2 ≤ d * d := Nat.mul_le_mul (Nat.le_refl _) hd
  rw [facFrom_enough (by omega) (by omega) (by omega)]
theorem facs_skip {d r : Nat} (hd : 2 ≤ d) (hr : r % d ≠ 0) : facs d r = facs (d + 1) r := by
  by_cases h : d * d ≤ r
  · have hr1 : 1 ≤ r := by
      have h1 : d * 2 ≤ d * d := Nat.mul_le_mul (Nat.le_refl _) hd
      omega
    obtain ⟨f, rfl⟩ : ∃ f, r = f + 1 := ⟨r - 1, by omega⟩
    rw [facs_step hd h, strip_miss hr]
    rfl
  · have h2 : d * d ≤ (d + 1) * (d + 1) := Nat.mul_le_mul (by omega) (by omega)
    rw [facs_big h, facs_big (by omega)]
theorem facs_two {n : Nat} (hn : 1 ≤ n) : facs 2 n = part 2 (strip n 2 n).1 ++ facs 3 (strip n 2 n).2 := by
  by_cases h : 2 * 2 ≤ n
  · exact facs_step (by omega) h
  · have : n = 1 ∨ n = 2 ∨ n = 3 := by omega
    rcases this with rfl | rfl | rfl <;> decide
/-- One round over the odd numbers. -/
theorem facs_odd {d r : Nat} (hd : 3 ≤ d) (hd2 : d % 2 = 1) (h : d * d ≤ r) (hr2 : r % 2 = 1) :
    facs d r = part d (strip r d r).1 ++ facs (d + 2) (strip r d r).2 ∧ (strip r d r).2 % 2 = 1 := by
  have hdv := strip_dvd r d r
  have h2 : (strip r d r).2 % 2 = 1 := by
    rcases Nat.mod_two_eq_zero_or_one (strip r d r).2 with e | e
    · have := Nat.mod_eq_zero_of_dvd (Nat.dvd_trans (Nat.dvd_of_mod_eq_zero e) hdv)
      omega
    · exact e
  refine ⟨?_, h2⟩
  rw [facs_step (by omega) h]
  congr 1
  refine facs_skip (by omega) (fun e => ?_)
  have e2 : 2 ∣ d + 1 := Nat.dvd_of_mod_eq_zero (by omega)
  have := Nat.mod_eq_zero_of_dvd (Nat.dvd_trans e2 (Nat.dvd_of_mod_eq_zero e))
  omega
theorem strip_odd {n : Nat} (hn : 1 ≤ n) : (strip n 2 n).2 % 2 = 1 := by
  have := strip_not (f := n) (d := 2) (r := n) (by omega) hn (Nat.le_refl _)
  omega


/-- The product of a list. -/
def prod : List Nat → Nat
  | [] => 1
  | x :: l => x * prod l
theorem prod_snoc (l : List Nat) (x : Nat) : prod (l ++ [x]) = prod l * x := by
  induction l with
  | nil => simp [prod]
  | cons y l ih => simp only [List.cons_append, prod, ih]; rw [Nat.mul_assoc]
theorem prod_append (l m : List Nat) : prod (l ++ m) = prod l * prod m := by
  induction l with
  | nil => simp [prod]
  | cons y l ih => simp only [List.cons_append, prod, ih]; rw [Nat.mul_assoc]
theorem prod_pos {l : List Nat} (h : ∀ x ∈ l, 1 ≤ x) : 1 ≤ prod l := by
  induction l with
  | nil => exact Nat.le_refl _
  | cons y l ih => exact Nat.mul_le_mul (h y (by simp)) (ih fun x hx => h x (by simp [hx]))
theorem prod_take_le {l : List Nat} (h : ∀ x ∈ l, 1 ≤ x) (k : Nat) : prod (l.take k) ≤ prod l := by
  have e : prod l = prod (l.take k) * prod (l.drop k) := by rw [← prod_append, List.take_append_drop]
  have h1 : 1 ≤ prod (l.drop k) := prod_pos fun x hx => h x (List.mem_of_mem_drop hx)
  rw [e]
  exact Nat.le_mul_of_pos_right _ h1
theorem prod_take_succ {l : List Nat} {k : Nat} (h : k < l.length) : prod (l.take (k + 1)) = prod (l.take k) * l[k] := by
  rw [List.take_succ_eq_append_getElem h, prod_snoc]

theorem clear_strip {d r : Nat} (hd : 2 ≤ d) (hr : 1 ≤ r) (hc : Clear r d) : Clear (strip r d r).2 (d + 1) := by
  have hdv := strip_dvd r d r
  intro e e2 ed em
  by_cases h : e < d
  · exact hc e e2 h (Nat.mod_eq_zero_of_dvd (Nat.dvd_trans (Nat.dvd_of_mod_eq_zero em) hdv))
  · have : e = d := by omega
    subst this
    exact strip_not hd hr (Nat.le_refl _) em
theorem clear_pr {d r : Nat} (hd : 2 ≤ d) (hc : Clear r d) (h : r % d = 0) : Pr d :=
  ⟨hd, fun e e2 es em => by
    have : e * 2 ≤ e * e := Nat.mul_le_mul_left e e2
    exact hc e e2 (by omega) (Nat.mod_eq_zero_of_dvd (Nat.dvd_trans (Nat.dvd_of_mod_eq_zero em) (Nat.dvd_of_mod_eq_zero h)))⟩
theorem strip_pos_div {f d r : Nat} (h : 0 < (strip f d r).1) : r % d = 0 := by
  cases f with
  | zero => simp [strip] at h
  | succ f =>
    by_cases k : r % d = 0
    · exact k
    · rw [strip_miss k] at h; simp at h

/-- The whole of it. -/
structure FacIs (d r : Nat) (F : List (Nat × Nat)) : Prop where
  mem : ∀ p ∈ F, Pr p.1 ∧ d ≤ p.1 ∧ 1 ≤ p.2
  asc : F.Pairwise (fun p q => p.1 < q.1)
  mul : prod (F.map fun p => p.1 ^ p.2) = r
theorem facs_is : ∀ (n d r : Nat), r - d ≤ n → 2 ≤ d → 1 ≤ r → Clear r d → FacIs d r (facs d r) := by
  intro n
  induction n with
  | zero =>
    intro d r hn hd hr hc
    have hs : ¬ d * d ≤ r := by
      intro h
      have : d * 2 ≤ d * d := Nat.mul_le_mul_left d hd
      omega
    rw [facs_big hs]
    split
    · rename_i h1
      have hp := clear_prime h1 hc (by omega)
      have hge : d ≤ r := by
        rcases Nat.lt_or_ge r d with h | h
        · exact absurd (Nat.mod_self r) (hc r h1 h)
        · exact h
      exact ⟨by simp; exact ⟨hp, hge⟩, by simp, by simp [prod]⟩
    · exact ⟨by simp, by simp, by simp [prod]; omega⟩
  | succ n ih =>
    intro d r hn hd hr hc
    by_cases hs : d * d ≤ r
    · have h2 : d * 2 ≤ d * d := Nat.mul_le_mul_left d hd
      rw [facs_step hd hs]
      have hle := (strip_le r d r).1
      obtain ⟨m, a, e⟩ := ih (d + 1) (strip r d r).2 (by omega) (by omega) (strip_pos hd hr) (clear_strip hd hr hc)
      have hmul := strip_mul (f := r) (d := d) (r := r)
      unfold part
      split
      · rename_i hk
        have hp := clear_pr hd hc (strip_pos_div hk)
        refine ⟨?_, ?_, ?_⟩
        · intro p hp'
          rcases List.mem_append.1 hp' with h | h
          · obtain rfl : p = (d, (strip r d r).1) := by simpa using h
            exact ⟨hp, Nat.le_refl _, hk⟩
          · obtain ⟨h1, h2, h3⟩ := m p h
            exact ⟨h1, by omega, h3⟩
        · rw [List.pairwise_append]
          refine ⟨by simp, a, fun p hp' q hq => ?_⟩
          obtain rfl : p = (d, (strip r d r).1) := by simpa using hp'
          have := (m q hq).2.1
          show d < q.1
          omega
        · rw [List.map_append, prod_append, e]
          simp only [List.map_cons, List.map_nil, prod, Nat.mul_one]
          rw [Nat.mul_comm]; exact hmul
      · rename_i hk
        have hk0 : (strip r d r).1 = 0 := by omega
        rw [hk0, Nat.pow_zero, Nat.mul_one] at hmul
        refine ⟨?_, by simpa using a, by simpa [hmul] using e⟩
        intro p hp'
        obtain ⟨h1, h2, h3⟩ := m p (by simpa using hp')
        exact ⟨h1, by omega, h3⟩
    · rw [facs_big hs]
      split
      · rename_i h1
        have hp := clear_prime h1 hc (by omega)
        have hge : d ≤ r := by
          rcases Nat.lt_or_ge r d with h | h
          · exact absurd (Nat.mod_self r) (hc r h1 h)
          · exact h
        exact ⟨by simp; exact ⟨hp, hge⟩, by simp, by simp [prod]⟩
      · exact ⟨by simp, by simp, by simp [prod]; omega⟩
theorem facs_two_is {n : Nat} (hn : 1 ≤ n) : FacIs 2 n (facs 2 n) := facs_is n 2 n (by omega) (by omega) hn (fun e e2 ed => by omega)

/-- The square-free part, and what is squared. -/
def oddOf (p : Nat × Nat) : Nat := if p.2 % 2 = 1 then p.1 else 1
def halfOf (p : Nat × Nat) : Nat := p.1 ^ (p.2 / 2)
def freeOf (F : List (Nat × Nat)) : Nat := prod (F.map oddOf)
def rootOf (F : List (Nat × Nat)) : Nat := prod (F.map halfOf)
theorem pow_parts (p : Nat × Nat) : p.1 ^ p.2 = oddOf p * (halfOf p * halfOf p) := by
  unfold oddOf halfOf
  rw [← Nat.pow_add]
  split
  · rename_i h
    conv => lhs; rw [show p.2 = p.2 / 2 + p.2 / 2 + 1 by omega]
    rw [Nat.pow_succ, Nat.mul_comm]
  · rename_i h
    conv => lhs; rw [show p.2 = p.2 / 2 + p.2 / 2 by omega]
    rw [Nat.one_mul]
theorem parts_mul (F : List (Nat × Nat)) : prod (F.map fun p => p.1 ^ p.2) = freeOf F * (rootOf F * rootOf F) := by
  induction F with
  | nil => rfl
  | cons p F ih =>
    unfold freeOf rootOf at *
    simp only [List.map_cons, prod]
    rw [ih, pow_parts p]
    grind
theorem freeOf_pos {F : List (Nat × Nat)} (h : ∀ p ∈ F, Pr p.1) : 1 ≤ freeOf F ∧ 1 ≤ rootOf F := by
  constructor
  · refine prod_pos fun x hx => ?_
    obtain ⟨p, hp, rfl⟩ := List.mem_map.1 hx
    unfold oddOf
    have := (h p hp).1
    split <;> omega
  · refine prod_pos fun x hx => ?_
    obtain ⟨p, hp, rfl⟩ := List.mem_map.1 hx
    exact Nat.pow_pos (by have := (h p hp).1; omega)

/-- No square but 1 divides it. -/
def Sqf (a : Nat) : Prop := ∀ t, t * t ∣ a → t = 1
theorem Pr.coprime {p x : Nat} (hp : Pr p) (h : ¬ p ∣ x) : Nat.Coprime p x := by
  have h1 := Nat.gcd_dvd_left p x
  by_cases e1 : Nat.gcd p x = 1
  · exact e1
  · by_cases e2 : Nat.gcd p x = p
    · exact absurd (e2 ▸ Nat.gcd_dvd_right p x) h
    · have hpos : 0 < Nat.gcd p x := Nat.gcd_pos_of_pos_left x (by have := hp.1; omega)
      have hle := Nat.le_of_dvd (by have := hp.1; omega) h1
      exact absurd (Nat.mod_eq_zero_of_dvd h1) (hp.div (by omega) (by omega))
theorem Pr.dvd_mul {p x y : Nat} (hp : Pr p) (h : p ∣ x * y) : p ∣ x ∨ p ∣ y := by
  by_cases k : p ∣ x
  · exact .inl k
  · exact .inr ((hp.coprime k).dvd_of_dvd_mul_left h)
theorem pr_of {n : Nat} (h : 1 < n) : ∃ p, Pr p ∧ p ∣ n := by
  by_cases k : Pr n
  · exact ⟨n, k, Nat.dvd_refl _⟩
  · obtain ⟨p, hp, _, hm⟩ := prime_div n h k
    exact ⟨p, hp, Nat.dvd_of_mod_eq_zero hm⟩
theorem sqf_mul {p m : Nat} (hp : Pr p) (h : ¬ p ∣ m) (hm : Sqf m) : Sqf (p * m) := by
  intro t ht
  refine Classical.byContradiction fun hne => ?_
  by_cases t0 : t = 0
  · subst t0
    have hz : p * m = 0 := by simpa using ht
    rcases Nat.mul_eq_zero.1 hz with h0 | h0
    · have := hp.1; omega
    · subst h0; exact h (Nat.dvd_zero _)
  · obtain ⟨q, hq, hqt⟩ := pr_of (n := t) (by omega)
    have hqq : q * q ∣ p * m := Nat.dvd_trans (Nat.mul_dvd_mul hqt hqt) ht
    by_cases e : q = p
    · subst e
      have := Nat.dvd_of_mul_dvd_mul_left (by have := hq.1; omega) hqq
      exact h this
    · have hqp : ¬ q ∣ p := fun hd => by
        have := Nat.le_of_dvd (by have := hp.1; omega) hd
        exact hp.div hq.1 (by omega) (Nat.mod_eq_zero_of_dvd hd)
      have hc : Nat.Coprime (q * q) p := Nat.Coprime.mul_left (hq.coprime hqp) (hq.coprime hqp)
      have h2 : q * q ∣ m := hc.dvd_of_dvd_mul_left hqq
      have := hm q h2
      have := hq.1
      omega
theorem free_not {p : Nat} (hp : Pr p) {F : List (Nat × Nat)} (h : ∀ q ∈ F, Pr q.1 ∧ p < q.1) : ¬ p ∣ freeOf F := by
  unfold freeOf
  induction F with
  | nil =>
    intro hd
    have := Nat.le_of_dvd (by decide) hd
    have := hp.1
    simp [prod] at *
    omega
  | cons q F ih =>
    intro hd
    simp only [List.map_cons, prod] at hd
    rcases hp.dvd_mul hd with h1 | h1
    · obtain ⟨hq, hlt⟩ := h q (by simp)
      unfold oddOf at h1
      split at h1
      · exact hq.div hp.1 hlt (Nat.mod_eq_zero_of_dvd h1)
      · have := Nat.le_of_dvd (by decide) h1
        have := hp.1
        omega
    · exact ih (fun x hx => h x (by simp [hx])) h1
theorem free_sqf {F : List (Nat × Nat)} (h : ∀ q ∈ F, Pr q.1) (ha : F.Pairwise (fun p q => p.1 < q.1)) : Sqf (freeOf F) := by
  induction F with
  | nil =>
    intro t ht
    unfold freeOf prod at ht
    have := Nat.le_of_dvd (by decide) ht
    have h0 : t ≠ 0 := by rintro rfl; simp at ht
    have : t ≤ t * t := Nat.le_mul_of_pos_left t (by omega)
    simp at *
    omega
  | cons q F ih =>
    rw [List.pairwise_cons] at ha
    have ih' := ih (fun x hx => h x (by simp [hx])) ha.2
    show Sqf (oddOf q * freeOf F)
    unfold oddOf
    split
    · exact sqf_mul (h q (by simp)) (free_not (h q (by simp)) (fun x hx => ⟨h x (by simp [hx]), ha.1 x hx⟩)) ih'
    · rw [Nat.one_mul]; exact ih'
/-- The square-free part is determined. -/
theorem sqf_unique {a b c e : Nat} (ha : Sqf a) (hc : Sqf c) (hb : 1 ≤ b) (h : a * (b * b) = c * (e * e)) : a = c ∧ b = e := by
  have hg : 0 < Nat.gcd b e := Nat.gcd_pos_of_pos_left e hb
  obtain ⟨b', hb'⟩ := Nat.gcd_dvd_left b e
  obtain ⟨e', he'⟩ := Nat.gcd_dvd_right b e
  have hco : Nat.Coprime b' e' := by
    have e1 : Nat.gcd (Nat.gcd b e * b') (Nat.gcd b e * e') = Nat.gcd b e * Nat.gcd b' e' := Nat.gcd_mul_left _ _ _
    rw [← hb', ← he'] at e1
    have : Nat.gcd b e * 1 = Nat.gcd b e * Nat.gcd b' e' := by omega
    exact (Nat.eq_of_mul_eq_mul_left hg this).symm
  generalize Nat.gcd b e = g at *
  have h2 : a * (b' * b') = c * (e' * e') := by
    have : (g * g) * (a * (b' * b')) = (g * g) * (c * (e' * e')) := by
      rw [hb', he'] at h
      grind
    exact Nat.eq_of_mul_eq_mul_left (Nat.mul_pos hg hg) this
  have c1 : Nat.Coprime (b' * b') (e' * e') := Nat.Coprime.mul_left (Nat.Coprime.mul_right hco hco) (Nat.Coprime.mul_right hco hco)
  have d1 : b' * b' ∣ c := c1.dvd_of_dvd_mul_right (by rw [← h2]; exact Nat.dvd_mul_left _ _)
  have d2 : e' * e' ∣ a := c1.symm.dvd_of_dvd_mul_right (by rw [h2]; exact Nat.dvd_mul_left _ _)
  have b1 := hc b' d1
  have e1 := ha e' d2
  subst b1
  subst e1
  exact ⟨by simpa using h2, by rw [hb', he']⟩
/-- What a round over the factorization knows. -/
theorem fund_step {n : Nat} {F : List (Nat × Nat)} (hF : FacIs 2 n F) {k : Nat} (hk : k < F.length) :
    freeOf (F.take (k + 1)) = freeOf (F.take k) * oddOf F[k] ∧ freeOf (F.take (k + 1)) ≤ n ∧
    rootOf (F.take (k + 1)) = rootOf (F.take k) * F[k].1 ^ (F[k].2 / 2) ∧ rootOf (F.take (k + 1)) ≤ n ∧ 2 ≤ F[k].1 ∧ F[k].1 ≤ n ∧ F[k].2 ≤ n ∧ 1 ≤ rootOf (F.take k) := by
  have hm := hF.mul
  have hpr : ∀ p ∈ F, Pr p.1 := fun p hp => (hF.mem p hp).1
  have hpos := freeOf_pos hpr
  rw [parts_mul] at hm
  have h1 : ∀ x ∈ F.map oddOf, 1 ≤ x := fun x hx => by
    obtain ⟨p, hp, rfl⟩ := List.mem_map.1 hx
    unfold oddOf; have := (hpr p hp).1; split <;> omega
  have h2 : ∀ x ∈ F.map halfOf, 1 ≤ x := fun x hx => by
    obtain ⟨p, hp, rfl⟩ := List.mem_map.1 hx
    exact Nat.pow_pos (by have := (hpr p hp).1; omega)
  have hfree : freeOf F ≤ n := by rw [← hm]; exact Nat.le_mul_of_pos_right _ (Nat.mul_pos hpos.2 hpos.2)
  have hroot : rootOf F ≤ n := by
    rw [← hm]
    exact Nat.le_trans (Nat.le_mul_of_pos_right _ hpos.2) (Nat.le_mul_of_pos_left _ hpos.1)
  have e1 : ∀ j, freeOf (F.take j) = prod ((F.map oddOf).take j) := fun j => by unfold freeOf; rw [List.map_take]
  have e2 : ∀ j, rootOf (F.take j) = prod ((F.map halfOf).take j) := fun j => by unfold rootOf; rw [List.map_take]
  have hmem := List.getElem_mem hk
  have hp := (hpr _ hmem).1
  have hpow : F[k].1 ^ F[k].2 ≤ n := by
    have hx : ∀ x ∈ F.map (fun p => p.1 ^ p.2), 1 ≤ x := fun x hx => by
      obtain ⟨p, hp, rfl⟩ := List.mem_map.1 hx
      exact Nat.pow_pos (by have := (hpr p hp).1; omega)
    have ht := prod_take_le hx (k + 1)
    rw [prod_take_succ (by simpa using hk), hF.mul] at ht
    have h0 : 1 ≤ prod ((F.map (fun p => p.1 ^ p.2)).take k) := prod_pos fun x hx' => hx x (List.mem_of_mem_take hx')
    have := Nat.le_mul_of_pos_left ((F.map (fun p => p.1 ^ p.2))[k]'(by simpa using hk)) h0
    simp only [List.getElem_map] at this ht
    omega
  refine ⟨?_, ?_, ?_, ?_, by omega, ?_, ?_, ?_⟩
  · rw [e1, e1, prod_take_succ (by simpa using hk)]; simp
  · rw [e1]; exact Nat.le_trans (prod_take_le h1 _) hfree
  · rw [e2, e2, prod_take_succ (by simpa using hk)]; simp [halfOf]
  · rw [e2]; exact Nat.le_trans (prod_take_le h2 _) hroot
  · have he := (hF.mem _ hmem).2.2
    have : F[k].1 ^ 1 ≤ F[k].1 ^ F[k].2 := Nat.pow_le_pow_right (by omega) he
    rw [Nat.pow_one] at this
    omega
  · have : F[k].2 < F[k].1 ^ F[k].2 := Nat.lt_pow_self (by omega)
    omega
  · rw [e2]; exact prod_pos fun x hx => h2 x (List.mem_of_mem_take hx)

theorem prod_len {l : List Nat} (h : ∀ x ∈ l, 2 ≤ x) : l.length + 1 ≤ prod l := by
  induction l with
  | nil => exact Nat.le_refl _
  | cons y l ih =>
    have h1 := ih fun x hx => h x (by simp [hx])
    have h2 := Nat.mul_le_mul (h y (by simp)) h1
    simp only [List.length_cons, prod]
    omega
theorem FacIs.len {d r : Nat} {F : List (Nat × Nat)} (h : FacIs d r F) : F.length ≤ r := by
  have := prod_len (l := F.map fun p => p.1 ^ p.2) (fun x hx => by
    obtain ⟨p, hp, rfl⟩ := List.mem_map.1 hx
    obtain ⟨h1, _, h3⟩ := h.mem p hp
    have h4 : p.1 ^ 1 ≤ p.1 ^ p.2 := Nat.pow_le_pow_right (by have := h1.1; omega) h3
    rw [Nat.pow_one] at h4
    have := h1.1
    omega)
  rw [h.mul, List.length_map] at this
  omega
/-- The answer: the fundamental discriminant and the conductor. -/
def lowL (n : Nat) : Nat → List Nat
  | 0 => []
  | d + 1 => lowL n d ++ (if n % (d + 1) = 0 then [d + 1] else [])
def hiL (n : Nat) : Nat → List Nat
  | 0 => []
  | d + 1 => hiL n d ++ (if n % (d + 1) = 0 ∧ (d + 1) * (d + 1) < n then [n / (d + 1)] else [])
theorem lowL_len (n d : Nat) : (lowL n d).length ≤ d ∧ (hiL n d).length ≤ d := by
  induction d with
  | zero => simp [lowL, hiL]
  | succ d ih =>
    simp only [lowL, hiL, List.length_append]
    constructor
    · split <;> simp <;> omega
    · split <;> simp <;> omega
def dvs (n d : Nat) : List Nat := lowL n d ++ (hiL n d).reverse



theorem mem_low {n x : Nat} : ∀ d, x ∈ lowL n d ↔ 1 ≤ x ∧ x ≤ d ∧ n % x = 0 := by
  intro d
  induction d with
  | zero => simp [lowL]; omega
  | succ d ih =>
    simp only [lowL, List.mem_append, ih]
    constructor
    · rintro (⟨h1, h2, h3⟩ | h)
      · exact ⟨h1, by omega, h3⟩
      · split at h
        · rename_i h2
          simp at h
          subst h
          exact ⟨by omega, by omega, h2⟩
        · cases h
    · rintro ⟨h1, h2, h3⟩
      by_cases he : x = d + 1
      · subst he
        right
        rw [if_pos h3]
        simp
      · exact .inl ⟨h1, by omega, h3⟩
theorem mem_hi {n x : Nat} : ∀ d, x ∈ hiL n d ↔ ∃ e, 1 ≤ e ∧ e ≤ d ∧ n % e = 0 ∧ e * e < n ∧ x = n / e := by
  intro d
  induction d with
  | zero => simp [hiL]; omega
  | succ d ih =>
    simp only [hiL, List.mem_append, ih]
    constructor
    · rintro (⟨e, h1, h2, h3⟩ | h)
      · exact ⟨e, h1, by omega, h3⟩
      · split at h
        · rename_i h2
          simp at h
          exact ⟨d + 1, by omega, by omega, h2.1, h2.2, h⟩
        · cases h
    · rintro ⟨e, h1, h2, h3, h4, h5⟩
      by_cases he : e = d + 1
      · subst he
        right
        rw [if_pos ⟨h3, h4⟩]
        simp [h5]
      · exact .inl ⟨e, h1, by omega, h3, h4, h5⟩
theorem low_asc (n : Nat) : ∀ d, (lowL n d).Pairwise (· < ·) := by
  intro d
  induction d with
  | zero => simp [lowL]
  | succ d ih =>
    simp only [lowL]
    rw [List.pairwise_append]
    refine ⟨ih, by split <;> simp, fun x hx y hy => ?_⟩
    have := ((mem_low d).1 hx).2.1
    split at hy
    · simp at hy; omega
    · cases hy
theorem div_lt {n e f : Nat} (he : 1 ≤ e) (h : e < f) (h1 : n % e = 0) (h2 : n % f = 0) (hn : 1 ≤ n) : n / f < n / e := by
  obtain ⟨a, ha⟩ := Nat.dvd_of_mod_eq_zero h1
  obtain ⟨b, hb⟩ := Nat.dvd_of_mod_eq_zero h2
  have e1 : n / e = a := by rw [ha, Nat.mul_div_cancel_left _ (by omega)]
  have e2 : n / f = b := by rw [hb, Nat.mul_div_cancel_left _ (by omega)]
  rw [e1, e2]
  rcases Nat.lt_or_ge b a with h | h
  · exact h
  · have hb0 : 1 ≤ b := by
      rcases Nat.eq_zero_or_pos b with h0 | h0
      · rw [h0] at hb; omega
      · exact h0
    have h3 : e * a ≤ e * b := Nat.mul_le_mul_left _ h
    have h4 : e * b < f * b := Nat.mul_lt_mul_of_pos_right (by omega) (by omega)
    omega
theorem hi_desc {n : Nat} (hn : 1 ≤ n) : ∀ d, (hiL n d).Pairwise (fun x y => y < x) := by
  intro d
  induction d with
  | zero => simp [hiL]
  | succ d ih =>
    simp only [hiL]
    rw [List.pairwise_append]
    refine ⟨ih, by split <;> simp, fun x hx y hy => ?_⟩
    obtain ⟨e, h1, h2, h3, h4, rfl⟩ := (mem_hi d).1 hx
    split at hy
    · rename_i h
      simp at hy
      rw [hy]
      exact div_lt h1 (by omega) h3 h.1 hn
    · cases hy
theorem dvs_asc {n D : Nat} (hn : 1 ≤ n) (h : D * D ≤ n) : (dvs n D).Pairwise (· < ·) := by
  unfold dvs
  rw [List.pairwise_append]
  refine ⟨low_asc n D, List.pairwise_reverse.2 (hi_desc hn D), fun x hx y hy => ?_⟩
  have hx := ((mem_low D).1 hx).2.1
  obtain ⟨e, h1, h2, h3, h4, rfl⟩ := (mem_hi D).1 (List.mem_reverse.1 hy)
  obtain ⟨a, ha⟩ := Nat.dvd_of_mod_eq_zero h3
  have e1 : n / e = a := by rw [ha, Nat.mul_div_cancel_left _ (by omega)]
  rw [e1]
  rcases Nat.lt_or_ge D a with hl | hl
  · omega
  · exfalso
    have h5 : e < a := by
      rcases Nat.lt_or_ge e a with h | h
      · exact h
      · have : e * a ≤ e * e := Nat.mul_le_mul_left _ h
        omega
    have h6 : e * a < a * a := Nat.mul_lt_mul_of_pos_right h5 (by omega)
    have h7 : a * a ≤ D * D := Nat.mul_le_mul hl hl
    omega
theorem mem_dvs {n D x : Nat} (hn : 1 ≤ n) (h : n < (D + 1) * (D + 1)) (hx : x ∣ n) : x ∈ dvs n D := by
  unfold dvs
  rw [List.mem_append, List.mem_reverse]
  obtain ⟨e, he⟩ := hx
  have hx0 : 1 ≤ x := by
    rcases Nat.eq_zero_or_pos x with h0 | h0
    · rw [h0] at he; omega
    · exact h0
  rcases Nat.lt_or_ge D x with hl | hl
  · right
    have h1 : e ≤ D := by
      rcases Nat.lt_or_ge D e with h2 | h2
      · have : (D + 1) * (D + 1) ≤ x * e := Nat.mul_le_mul hl h2
        omega
      · exact h2
    have h0 : 1 ≤ e := by
      rcases Nat.eq_zero_or_pos e with h0 | h0
      · rw [h0] at he; omega
      · exact h0
    refine (mem_hi D).2 ⟨e, h0, h1, ?_, ?_, ?_⟩
    · rw [he, Nat.mul_mod_left]
    · have : e * e < x * e := Nat.mul_lt_mul_of_pos_right (by omega) (by omega)
      omega
    · rw [he, Nat.mul_div_cancel _ (by omega)]
  · exact .inl ((mem_low D).2 ⟨hx0, hl, by rw [he, Nat.mul_mod_right]⟩)
theorem dvs_dvd {n D x : Nat} (hx : x ∈ dvs n D) : x ∣ n := by
  unfold dvs at hx
  rw [List.mem_append, List.mem_reverse] at hx
  rcases hx with h | h
  · exact Nat.dvd_of_mod_eq_zero ((mem_low D).1 h).2.2
  · obtain ⟨e, _, _, h3, _, rfl⟩ := (mem_hi D).1 h
    exact Nat.div_dvd_of_dvd (Nat.dvd_of_mod_eq_zero h3)
theorem dvs_len (n D : Nat) : (dvs n D).length ≤ 2 * D := by
  have := lowL_len n D
  unfold dvs
  simp
  omega


/-- Appending x * p for the i-th element x, i = 0, 1 and so on. -/
def grow (L : List Nat) (p : Nat) : Nat → List Nat
  | 0 => L
  | i + 1 => grow L p i ++ [(grow L p i).getD i 0 * p]
theorem grow_len (L : List Nat) (p i : Nat) : (grow L p i).length = L.length + i := by
  induction i with
  | zero => rfl
  | succ i ih => rw [grow, List.length_append, ih]; rfl
theorem grow_get (L : List Nat) (p : Nat) (hL : 1 ≤ L.length) : ∀ i k, k < L.length + i → (grow L p i).getD k 0 = L.getD (k % L.length) 0 * p ^ (k / L.length) := by
  intro i
  induction i with
  | zero =>
    intro k hk
    rw [Nat.mod_eq_of_lt (by omega), Nat.div_eq_of_lt (by omega)]; simp [grow]
  | succ i ih =>
    intro k hk
    by_cases h : k < L.length + i
    · rw [grow, List.getD_eq_getElem?_getD, List.getElem?_append_left (by rw [grow_len]; exact h), ← List.getD_eq_getElem?_getD, ih k h]
    · have hk2 : k = L.length + i := by omega
      subst hk2
      rw [grow, List.getD_eq_getElem?_getD, List.getElem?_append_right (by rw [grow_len]; omega), grow_len, Nat.sub_self]
      simp only [List.getElem?_cons_zero, Option.getD_some]
      rw [ih i (by omega), Nat.add_mod_left, Nat.add_div_left _ (by omega), Nat.pow_succ, Nat.mul_assoc]

theorem pow_dvd_form {p : Nat} (hp : Pr p) : ∀ e x, x ∣ p ^ e → ∃ q, q ≤ e ∧ x = p ^ q := by
  intro e
  induction e with
  | zero => intro x hx; exact ⟨0, by omega, by simpa using hx⟩
  | succ e ih =>
    intro x hx
    by_cases hd : p ∣ x
    · obtain ⟨y, rfl⟩ := hd
      have h1 : y ∣ p ^ e := by
        rw [Nat.pow_succ, Nat.mul_comm (p ^ e)] at hx
        exact Nat.dvd_of_mul_dvd_mul_left (by have := hp.1; omega) hx
      obtain ⟨q, hq, rfl⟩ := ih y h1
      exact ⟨q + 1, by omega, by rw [Nat.pow_succ, Nat.mul_comm]⟩
    · have h1 : Nat.Coprime x p := (hp.coprime hd).symm
      have h2 : x ∣ p ^ e := by
        rw [Nat.pow_succ] at hx
        exact h1.dvd_of_dvd_mul_right hx
      obtain ⟨q, hq, rfl⟩ := ih x h2
      exact ⟨q, by omega, rfl⟩

/-- The list of the divisors of P, each once. -/
structure DivL (P : Nat) (L : List Nat) : Prop where
  nd : L.Nodup
  mem : ∀ x, x ∈ L ↔ x ∣ P
theorem DivL.pos {P : Nat} {L : List Nat} (h : DivL P L) : 1 ≤ L.length := by
  have : 1 ∈ L := (h.mem 1).2 (Nat.one_dvd _)
  exact List.length_pos_of_mem this
theorem DivL.one : DivL 1 [1] := ⟨by simp, fun x => by simp⟩
theorem getD_memD {L : List Nat} {k : Nat} (h : k < L.length) : L.getD k 0 ∈ L := by
  rw [List.getD_eq_getElem?_getD, List.getElem?_eq_getElem h]; exact List.getElem_mem h
theorem pow_cancel {p a b q r : Nat} (hp : 1 < p) (ha : ¬ p ∣ a) (hb : ¬ p ∣ b) (h : a * p ^ q = b * p ^ r) : q = r ∧ a = b := by
  have key : ∀ a b q r : Nat, ¬ p ∣ a → q < r → a * p ^ q = b * p ^ r → False := fun a b q r ha hlt h => by
    obtain ⟨t, rfl⟩ : ∃ t, r = q + (t + 1) := ⟨r - q - 1, by omega⟩
    rw [Nat.pow_add, Nat.mul_comm (p ^ q), ← Nat.mul_assoc] at h
    have := Nat.eq_of_mul_eq_mul_right (Nat.pow_pos (by omega)) h
    exact ha ⟨b * p ^ t, by rw [this, Nat.pow_succ]; grind⟩
  rcases Nat.lt_trichotomy q r with hlt | rfl | hlt
  · exact (key a b q r ha hlt h).elim
  · exact ⟨rfl, Nat.eq_of_mul_eq_mul_right (Nat.pow_pos (by omega)) h⟩
  · exact (key b a r q hb hlt h.symm).elim
theorem DivL.step {P p e : Nat} {L : List Nat} (h : DivL P L) (hp : Pr p) (hP : ¬ p ∣ P) : DivL (P * p ^ e) (grow L p (L.length * e)) := by
  have hl := h.pos
  have hlen : (grow L p (L.length * e)).length = L.length * (e + 1) := by rw [grow_len, Nat.mul_succ]; omega
  have hget : ∀ k, k < L.length * (e + 1) → (grow L p (L.length * e)).getD k 0 = L.getD (k % L.length) 0 * p ^ (k / L.length) := fun k hk => by
    rw [Nat.mul_succ] at hk
    exact grow_get L p hl _ k (by omega)
  have hnp : ∀ k, ¬ p ∣ L.getD (k % L.length) 0 := fun k hd => by
    have hm := (h.mem _).1 (getD_memD (L := L) (Nat.mod_lt k hl))
    exact hP (Nat.dvd_trans hd hm)
  constructor
  · rw [List.nodup_iff_pairwise_ne, List.pairwise_iff_getElem]
    intro i j hi hj hij heq
    rw [hlen] at hi hj
    have e1 := hget i hi
    have e2 := hget j hj
    rw [List.getD_eq_getElem?_getD, List.getElem?_eq_getElem (by omega)] at e1 e2
    simp only [Option.getD_some] at e1 e2
    rw [e1, e2] at heq
    obtain ⟨h1, h2⟩ := pow_cancel hp.1 (hnp i) (hnp j) heq
    have hi2 := Nat.mod_lt i hl
    have hj2 := Nat.mod_lt j hl
    rw [List.getD_eq_getElem?_getD, List.getElem?_eq_getElem hi2, List.getD_eq_getElem?_getD, List.getElem?_eq_getElem hj2] at h2
    simp only [Option.getD_some] at h2
    have h3 : i % L.length = j % L.length := by
      rcases Nat.lt_trichotomy (i % L.length) (j % L.length) with hlt | he | hlt
      · exact absurd h2 (List.pairwise_iff_getElem.1 h.nd _ _ hi2 hj2 hlt)
      · exact he
      · exact absurd h2.symm (List.pairwise_iff_getElem.1 h.nd _ _ hj2 hi2 hlt)
    have := Nat.div_add_mod i L.length
    have := Nat.div_add_mod j L.length
    rw [h1, h3] at *
    omega
  · intro x
    constructor
    · intro hx
      obtain ⟨k, hk, rfl⟩ := List.getElem_of_mem hx
      rw [hlen] at hk
      have e1 := hget k hk
      rw [List.getD_eq_getElem?_getD, List.getElem?_eq_getElem (by omega)] at e1
      simp only [Option.getD_some] at e1
      rw [e1]
      have hq : k / L.length ≤ e := by
        have : k / L.length < e + 1 := by rw [Nat.div_lt_iff_lt_mul hl, Nat.mul_comm]; exact hk
        omega
      exact Nat.mul_dvd_mul ((h.mem _).1 (getD_memD (Nat.mod_lt k hl))) (Nat.pow_dvd_pow p hq)
    · intro hx
      obtain ⟨a, b, ha, hb, rfl⟩ := Nat.dvd_mul.1 hx
      obtain ⟨q, hq, rfl⟩ := pow_dvd_form hp e b hb
      obtain ⟨r, hr, rfl⟩ := List.getElem_of_mem ((h.mem a).2 ha)
      have hk : L.length * q + r < L.length * (e + 1) := by
        have : L.length * q ≤ L.length * e := Nat.mul_le_mul_left _ hq
        rw [Nat.mul_succ]; omega
      have e1 := hget _ hk
      rw [Nat.mul_add_mod, Nat.mod_eq_of_lt hr, Nat.mul_add_div (by omega), Nat.div_eq_of_lt hr, Nat.add_zero] at e1
      rw [List.getD_eq_getElem?_getD (l := L), List.getElem?_eq_getElem hr] at e1
      simp only [Option.getD_some] at e1
      rw [← e1]
      exact getD_memD (by omega)
/-- Two ascending lists with the same elements. -/
theorem asc_eq {L M : List Nat} (hL : L.Pairwise (· < ·)) (hM : M.Pairwise (· < ·)) (h : ∀ x, x ∈ L ↔ x ∈ M) : L = M := by
  have hp : L.Perm M := (List.perm_ext_iff_of_nodup (hL.imp (fun h => by omega)) (hM.imp (fun h => by omega))).2 h
  exact hp.eq_of_pairwise (le := (· < ·)) (fun a b _ _ h1 h2 => by omega) hL hM
theorem pr_dvd_pow {p x k : Nat} (hp : Pr p) (h : p ∣ x ^ k) : p ∣ x := by
  induction k with
  | zero =>
    have := Nat.le_of_dvd (by simp) h
    have := hp.1
    simp at *
    omega
  | succ k ih =>
    rw [Nat.pow_succ] at h
    exact (hp.dvd_mul h).elim ih id
theorem pr_eq {p q : Nat} (hp : Pr p) (hq : Pr q) (h : p ∣ q) : p = q := by
  refine Classical.byContradiction fun hne => ?_
  have := Nat.le_of_dvd (by have := hq.1; omega) h
  exact hq.div (by have := hp.1; omega) (by omega) (Nat.mod_eq_zero_of_dvd h)
theorem pr_mem {q : Nat} (hq : Pr q) : ∀ F : List (Nat × Nat), (∀ p ∈ F, Pr p.1) → q ∣ prod (F.map fun p => p.1 ^ p.2) → ∃ p ∈ F, p.1 = q := by
  intro F
  induction F with
  | nil =>
    intro _ h
    have := Nat.le_of_dvd (by simp [prod]) h
    have := hq.1
    simp [prod] at *
    omega
  | cons r F ih =>
    intro h1 h
    simp only [List.map_cons, prod] at h
    rcases hq.dvd_mul h with h | h
    · exact ⟨r, by simp, (pr_eq hq (h1 r (by simp)) (pr_dvd_pow hq h)).symm⟩
    · obtain ⟨p, hp, e⟩ := ih (fun y hy => h1 y (by simp [hy])) h
      exact ⟨p, by simp [hp], e⟩
theorem root_of (n : Nat) : ∃ D, D * D ≤ n ∧ n < (D + 1) * (D + 1) := by
  induction n with
  | zero => exact ⟨0, by omega, by omega⟩
  | succ n ih =>
    obtain ⟨D, h1, h2⟩ := ih
    by_cases h : n + 1 < (D + 1) * (D + 1)
    · exact ⟨D, by omega, h⟩
    · refine ⟨D + 1, by omega, ?_⟩
      have : (D + 1) * (D + 1) < (D + 1 + 1) * (D + 1 + 1) := Nat.mul_lt_mul_of_lt_of_le (by omega) (by omega) (by omega)
      omega
theorem mem_dvs_iff {n D x : Nat} (hn : 1 ≤ n) (h : n < (D + 1) * (D + 1)) : x ∈ dvs n D ↔ x ∣ n := ⟨dvs_dvd, mem_dvs hn h⟩
/-- No list of divisors is long. -/
theorem DivL.len {P : Nat} {L : List Nat} (h : DivL P L) (h1 : 1 ≤ P) (h2 : P ≤ 2147483647) : L.length ≤ 92682 := by
  obtain ⟨D, d1, d2⟩ := root_of P
  have hp : L.Perm (dvs P D) := (List.perm_ext_iff_of_nodup h.nd ((dvs_asc h1 d1).imp fun h => by omega)).2 fun x => (h.mem x).trans (mem_dvs_iff h1 d2).symm
  rw [hp.length_eq]
  have h3 := dvs_len P D
  rcases Nat.lt_or_ge 46341 D with h | h
  · have : 46342 * 46342 ≤ D * D := Nat.mul_le_mul h h
    omega
  · omega
/-- What slices.Sort leaves of a row of numbers. -/
def sorted (M : List Nat) : List Nat := ((M.map fun x => ((x : Nat) : Int)).mergeSort fun x y => decide (x ≤ y)).map Int.toNat
theorem sorted_len (M : List Nat) : (sorted M).length = M.length := by simp [sorted]
theorem sorted_perm (M : List Nat) : (sorted M).Perm M := by
  have h := ((List.mergeSort_perm (M.map fun x => ((x : Nat) : Int)) fun x y => decide (x ≤ y)).map Int.toNat)
  rw [List.map_map] at h
  have e : M.map (Int.toNat ∘ fun x => ((x : Nat) : Int)) = M := by
    conv => rhs; rw [← List.map_id M]
    exact List.map_congr_left fun x _ => by simp
  rwa [e] at h
theorem sorted_cast (M : List Nat) : (sorted M).map (fun x => ((x : Nat) : Int)) = (M.map fun x => ((x : Nat) : Int)).mergeSort fun x y => decide (x ≤ y) := by
  unfold sorted
  rw [List.map_map]
  conv => rhs; rw [← List.map_id ((M.map fun x => ((x : Nat) : Int)).mergeSort fun x y => decide (x ≤ y))]
  refine List.map_congr_left fun x hx => ?_
  have := (List.mergeSort_perm (M.map fun x => ((x : Nat) : Int)) fun x y => decide (x ≤ y)).mem_iff.1 hx
  obtain ⟨y, _, rfl⟩ := List.mem_map.1 this
  simp
theorem sorted_asc {M : List Nat} (h : M.Nodup) : (sorted M).Pairwise (· < ·) := by
  have h1 : ((M.map fun x => ((x : Nat) : Int)).mergeSort fun x y => decide (x ≤ y)).Pairwise (fun x y => decide (x ≤ y) = true) :=
    List.pairwise_mergeSort (fun a b c h1 h2 => by simp at *; omega) (fun a b => by simp; omega) _
  rw [← sorted_cast, List.pairwise_map] at h1
  have h2 : (sorted M).Nodup := (sorted_perm M).nodup_iff.2 h
  refine (List.Pairwise.and h1 h2).imp fun {a b} ⟨h3, h4⟩ => ?_
  simp at h3
  omega
theorem sorted_dvs {n D : Nat} {M : List Nat} (h : DivL n M) (hn : 1 ≤ n) (h1 : D * D ≤ n) (h2 : n < (D + 1) * (D + 1)) : sorted M = dvs n D :=
  asc_eq (sorted_asc h.nd) (dvs_asc hn h1) fun x => ((sorted_perm M).mem_iff.trans (h.mem x)).trans (mem_dvs_iff hn h2).symm
/-- The product of the first powers. -/
def pw (F : List (Nat × Nat)) (k : Nat) : Nat := prod ((F.take k).map fun p => p.1 ^ p.2)
theorem pw_succ {F : List (Nat × Nat)} {k : Nat} (h : k < F.length) : pw F (k + 1) = pw F k * F[k].1 ^ F[k].2 := by
  unfold pw
  rw [List.take_succ_eq_append_getElem h, List.map_append, prod_append]
  simp [prod]
theorem pw_not {n : Nat} {F : List (Nat × Nat)} (hF : FacIs 2 n F) {k : Nat} (h : k < F.length) : ¬ F[k].1 ∣ pw F k := by
  intro hd
  unfold pw at hd
  have hp := (hF.mem _ (List.getElem_mem h)).1
  obtain ⟨q, hq, he⟩ := pr_mem hp (F.take k) (fun x hx => (hF.mem x (List.mem_of_mem_take hx)).1) hd
  obtain ⟨j, hj, rfl⟩ := List.getElem_of_mem hq
  rw [List.length_take] at hj
  rw [List.getElem_take] at he
  have := List.pairwise_iff_getElem.1 hF.asc j k (by omega) h (by omega)
  omega
theorem pw_dvd {n : Nat} {F : List (Nat × Nat)} (hF : FacIs 2 n F) (k : Nat) : pw F k ∣ n := by
  conv => rhs; rw [← hF.mul, ← List.take_append_drop k F, List.map_append, prod_append]
  exact Nat.dvd_mul_right _ _
/-- How many divisors the first powers have. -/
def cnt (F : List (Nat × Nat)) (k : Nat) : Nat := prod ((F.take k).map fun p => p.2 + 1)
theorem cnt_succ {F : List (Nat × Nat)} {k : Nat} (h : k < F.length) : cnt F (k + 1) = cnt F k * (F[k].2 + 1) := by
  unfold cnt
  rw [List.take_succ_eq_append_getElem h, List.map_append, prod_append]
  simp [prod]
end Go.Proofs.Ytlagljnhbhnelaa
