/- Plain facts on factoring by trial division. Nothing of the program. -/
import Derived.WalkKit
namespace Go.Proofs.Ytoeailhcobbhjaa

/-- How often d divides r, and what is left. -/
def strip : Nat → Nat → Nat → Nat × Nat
  | 0, _, r => (0, r)
  | f + 1, d, r => if r % d = 0 then ((strip f d (r / d)).1 + 1, (strip f d (r / d)).2) else (0, r)
theorem strip_hit {f d r : Nat} (h : r % d = 0) : strip (f + 1) d r = ((strip f d (r / d)).1 + 1, (strip f d (r / d)).2) := by simp [strip, h]
theorem strip_miss {f d r : Nat} (h : r % d ≠ 0) : strip (f + 1) d r = (0, r) := by simp [strip, h]
theorem div_small {d r f : Nat} (hd : 2 ≤ d) (hr : 1 ≤ r) (hf : r ≤ f + 1) : r / d ≤ f := by
  have := Nat.div_lt_self (show 0 < r by omega) (show 1 < d by omega)
  omega
theorem div_one_le {d r : Nat} (hd : 2 ≤ d) (hr : 1 ≤ r) (h : r % d = 0) : 1 ≤ r / d :=
  Nat.div_pos (Nat.le_of_dvd (by omega) (Nat.dvd_of_mod_eq_zero h)) (by omega)
theorem strip_le (f d r : Nat) : (strip f d r).2 ≤ r ∧ ((strip f d r).1 ≤ f) := by
  induction f generalizing r with
  | zero => simp [strip]
  | succ f ih =>
    by_cases h : r % d = 0
    · rw [strip_hit h]
      have := ih (r / d)
      have := Nat.div_le_self r d
      dsimp only
      omega
    · rw [strip_miss h]
      simp
theorem strip_pos {f d r : Nat} (hd : 2 ≤ d) (hr : 1 ≤ r) : 1 ≤ (strip f d r).2 := by
  induction f generalizing r with
  | zero => simpa [strip]
  | succ f ih =>
    by_cases h : r % d = 0
    · rw [strip_hit h]; exact ih (div_one_le hd hr h)
    · rw [strip_miss h]; exact hr
theorem strip_dvd (f d r : Nat) : (strip f d r).2 ∣ r := by
  induction f generalizing r with
  | zero => simp [strip]
  | succ f ih =>
    by_cases h : r % d = 0
    · rw [strip_hit h]; exact Nat.dvd_trans (ih _) (Nat.div_dvd_of_dvd (Nat.dvd_of_mod_eq_zero h))
    · rw [strip_miss h]; exact Nat.dvd_refl _
theorem strip_not {f d r : Nat} (hd : 2 ≤ d) (hr : 1 ≤ r) (hf : r ≤ f) : (strip f d r).2 % d ≠ 0 := by
  induction f generalizing r with
  | zero => omega
  | succ f ih =>
    by_cases h : r % d = 0
    · rw [strip_hit h]; exact ih (div_one_le hd hr h) (div_small hd hr hf)
    · rw [strip_miss h]; exact h
theorem strip_mul {f d r : Nat} : (strip f d r).2 * d ^ (strip f d r).1 = r := by
  induction f generalizing r with
  | zero => simp [strip]
  | succ f ih =>
    by_cases h : r % d = 0
    · rw [strip_hit h]
      have := ih (r := r / d)
      dsimp only
      rw [Nat.pow_succ, ← Nat.mul_assoc, this]
      exact Nat.div_mul_cancel (Nat.dvd_of_mod_eq_zero h)
    · rw [strip_miss h]; simp
theorem strip_self {r : Nat} (hr : 2 ≤ r) : strip r r r = (1, 1) := by
  obtain ⟨f, rfl⟩ : ∃ f, r = f + 2 := ⟨r - 2, by omega⟩
  rw [strip_hit (by simp), Nat.div_self (by omega), strip_miss (by rw [Nat.mod_eq_of_lt (by omega)]; omega)]

/-- The part of a factorization that one divisor gives. -/
def part (d k : Nat) : List (Nat × Nat) := if 0 < k then [(d, k)] else []
/-- The factorization of r by trial division from d on. -/
def facFrom : Nat → Nat → Nat → List (Nat × Nat)
  | 0, _, _ => []
  | f + 1, d, r => if d * d ≤ r then part d (strip r d r).1 ++ facFrom f (d + 1) (strip r d r).2 else if 1 < r then [(r, 1)] else []
def fac (n : Nat) : List (Nat × Nat) := facFrom (n + 1) 2 n

theorem facFrom_big {f d r : Nat} (h : ¬ d * d ≤ r) : facFrom (f + 1) d r = if 1 < r then [(r, 1)] else [] := by simp [facFrom, h]
theorem facFrom_step {f d r : Nat} (h : d * d ≤ r) : facFrom (f + 1) d r = part d (strip r d r).1 ++ facFrom f (d + 1) (strip r d r).2 := by simp [facFrom, h]
/-- More fuel changes nothing. -/
theorem facFrom_fuel {f g d r : Nat} (hd : 2 ≤ d) (hf : r + 2 ≤ f + d) (hf1 : 1 ≤ f) (hg : r + 2 ≤ g + d) (hg1 : 1 ≤ g) : facFrom f d r = facFrom g d r := by
  induction f generalizing g d r with
  | zero => omega
  | succ f ih =>
    obtain ⟨g, rfl⟩ : ∃ g', g = g' + 1 := ⟨g - 1, by omega⟩
    by_cases h : d * d ≤ r
    · rw [facFrom_step h, facFrom_step h]
      have h1 : d * 2 ≤ d * d := Nat.mul_le_mul (Nat.le_refl _) hd
      have := (strip_le r d r).1
      rw [ih (g := g) (by omega) (by omega) (by omega) (by omega) (by omega)]
    · rw [facFrom_big h, facFrom_big h]
theorem facFrom_enough {f d r : Nat} (hd : 2 ≤ d) (hf : r + 2 ≤ f + d) (hf1 : 1 ≤ f) : facFrom f d r = facFrom (r + 2) d r := facFrom_fuel hd hf hf1 (by omega) (by omega)
/-- The factorization from d on. -/
def facs (d r : Nat) : List (Nat × Nat) := facFrom (r + 2) d r
theorem facs_big {d r : Nat} (h : ¬ d * d ≤ r) : facs d r = if 1 < r then [(r, 1)] else [] := facFrom_big h
theorem facs_step {d r : Nat} (hd : 2 ≤ d) (h : d * d ≤ r) : facs d r = part d (strip r d r).1 ++ facs (d + 1) (strip r d r).2 := by
  unfold facs
  rw [facFrom_step h]
  have := (strip_le r d r).1
  have h1 : d * 2 ≤ d * d := Nat.mul_le_mul (Nat.le_refl _) hd
  rw [facFrom_enough (by omega) (by omega) (by omega)]
theorem facs_skip {d r : Nat} (hd : 2 ≤ d) (hr : r % d ≠ 0) : facs d r = facs (d + 1) r := by
  by_cases h : d * d ≤ r
  · have hr1 : 1 ≤ r := by
      have h1 : d * 2 ≤ d * d := Nat.mul_le_mul (Nat.le_refl _) hd
      omega
    obtain ⟨f, rfl⟩ : ∃ f, r = f + 1 := ⟨r - 1, by omega⟩
    rw [facs_step hd h, strip_miss hr]
    rfl
  · have h2 : d * d ≤ (d + 1) * (d + 1) := Nat.mul_le_mul (by omega) (by omega)
    rw [facs_big h, facs_big (by omega)]
theorem facs_two {n : Nat} (hn : 1 ≤ n) : facs 2 n = part 2 (strip n 2 n).1 ++ facs 3 (strip n 2 n).2 := by
  by_cases h : 2 * 2 ≤ n
  · exact facs_step (by omega) h
  · have : n = 1 ∨ n = 2 ∨ n = 3 := by omega
    rcases this with rfl | rfl | rfl <;> decide
/-- One round over the odd numbers. -/
theorem facs_odd {d r : Nat} (hd : 3 ≤ d) (hd2 : d % 2 = 1) (h : d * d ≤ r) (hr2 : r % 2 = 1) :
    facs d r = part d (strip r d r).1 ++ facs (d + 2) (strip r d r).2 ∧ (strip r d r).2 % 2 = 1 := by
  have hdv := strip_dvd r d r
  have h2 : (strip r d r).2 % 2 = 1 := by
    rcases Nat.mod_two_eq_zero_or_one (strip r d r).2 with e | e
    · have := Nat.mod_eq_zero_of_dvd (Nat.dvd_trans (Nat.dvd_of_mod_eq_zero e) hdv)
      omega
    · exact e
  refine ⟨?_, h2⟩
  rw [facs_step (by omega) h]
  congr 1
  refine facs_skip (by omega) (fun e => ?_)
  have e2 : 2 ∣ d + 1 := Nat.dvd_of_mod_eq_zero (by omega)
  have := Nat.mod_eq_zero_of_dvd (Nat.dvd_trans e2 (Nat.dvd_of_mod_eq_zero e))
  omega
theorem strip_odd {n : Nat} (hn : 1 ≤ n) : (strip n 2 n).2 % 2 = 1 := by
  have := strip_not (f := n) (d := 2) (r := n) (by omega) hn (Nat.le_refl _)
  omega
end Go.Proofs.Ytoeailhcobbhjaa
