/- Plain facts on primes and trial division. Nothing of the program. -/
import Derived.WalkKit
namespace Go.Proofs.Ytoeailhcobbhjaa

/-- n has no divisor from 2 on whose square is at most n, and is above 1. -/
def Pr (n : Nat) : Prop := 1 < n ∧ ∀ d, 2 ≤ d → d * d ≤ n → n % d ≠ 0
theorem small_div {n d : Nat} (hn : 1 < n) (h2 : 2 ≤ d) (hd : d < n) (h : n % d = 0) : ∃ e, 2 ≤ e ∧ e * e ≤ n ∧ n % e = 0 := by
  by_cases hs : d * d ≤ n
  · exact ⟨d, h2, hs, h⟩
  · obtain ⟨q, hq⟩ := Nat.dvd_of_mod_eq_zero h
    have hq0 : q ≠ 0 := by rintro rfl; omega
    have hq1 : q ≠ 1 := by rintro rfl; omega
    have hqd : q < d := by
      rcases Nat.lt_or_ge q d with h' | h'
      · exact h'
      · have := Nat.mul_le_mul_left d h'; omega
    refine ⟨q, by omega, ?_, ?_⟩
    · have := Nat.mul_le_mul_right q (Nat.le_of_lt hqd); omega
    · exact Nat.mod_eq_zero_of_dvd ⟨d, by rw [hq, Nat.mul_comm]⟩
/-- A prime has no divisor between. -/
theorem Pr.div {n d : Nat} (h : Pr n) (h2 : 2 ≤ d) (hd : d < n) : n % d ≠ 0 := fun e => by
  obtain ⟨q, q2, qs, qm⟩ := small_div h.1 h2 hd e
  exact h.2 q q2 qs qm
instance (n : Nat) : Decidable (Pr n) :=
  decidable_of_iff (1 < n ∧ ∀ d, d < n → 2 ≤ d → d * d ≤ n → n % d ≠ 0) ⟨fun ⟨h, k⟩ => ⟨h, fun d h2 hs => by
    refine k d ?_ h2 hs
    have : d * 2 ≤ d * d := Nat.mul_le_mul_left d h2
    omega⟩, fun ⟨h, k⟩ => ⟨h, fun d _ h2 hs => k d h2 hs⟩⟩
def prB (n : Nat) : Bool := decide (Pr n)
theorem prB_true {n : Nat} (h : Pr n) : prB n = true := decide_eq_true h
theorem prB_false {n : Nat} (h : ¬ Pr n) : prB n = false := decide_eq_false h

/-- Every number from 2 on has a prime divisor, whose square is at most the number if that is no prime. -/
theorem prime_div : ∀ n, 1 < n → ¬ Pr n → ∃ p, Pr p ∧ p * p ≤ n ∧ n % p = 0 := by
  intro n
  induction n using Nat.strongRecOn with
  | ind n ih =>
    intro hn hp
    have : ∃ e, 2 ≤ e ∧ e * e ≤ n ∧ n % e = 0 := by
      refine Classical.byContradiction fun h => hp ⟨hn, fun d h2 hs e => h ⟨d, h2, hs, e⟩⟩
    obtain ⟨e, e2, es, em⟩ := this
    by_cases hpe : Pr e
    · exact ⟨e, hpe, es, em⟩
    · have hen : e < n := by
        have : e * 2 ≤ e * e := Nat.mul_le_mul_left e e2
        omega
      obtain ⟨p, hp1, hp2, hp3⟩ := ih e hen e2 hpe
      exact ⟨p, hp1, by have : e * 2 ≤ e * e := Nat.mul_le_mul_left e e2; omega, Nat.mod_eq_zero_of_dvd (Nat.dvd_trans (Nat.dvd_of_mod_eq_zero hp3) (Nat.dvd_of_mod_eq_zero em))⟩

/-- The wheel of leastPrime: no divisor below d, for d one less than a multiple of 6. -/
def Clear (n d : Nat) : Prop := ∀ e, 2 ≤ e → e < d → n % e ≠ 0
theorem wheel {n d : Nat} (h : Clear n d) (hd : 5 ≤ d) (h6 : d % 6 = 5) (h1 : n % d ≠ 0) (h2 : n % (d + 2) ≠ 0) : Clear n (d + 6) := by
  intro e e2 ed
  by_cases hlt : e < d
  · exact h e e2 hlt
  · have : e = d ∨ e = d + 1 ∨ e = d + 2 ∨ e = d + 3 ∨ e = d + 4 ∨ e = d + 5 := by omega
    rcases this with rfl | rfl | rfl | rfl | rfl | rfl
    · exact h1
    · intro e; exact h 2 (by omega) (by omega) (Nat.mod_eq_zero_of_dvd (Nat.dvd_trans (Nat.dvd_of_mod_eq_zero (by omega)) (Nat.dvd_of_mod_eq_zero e)))
    · exact h2
    · intro e; exact h 2 (by omega) (by omega) (Nat.mod_eq_zero_of_dvd (Nat.dvd_trans (Nat.dvd_of_mod_eq_zero (by omega)) (Nat.dvd_of_mod_eq_zero e)))
    · intro e; exact h 3 (by omega) (by omega) (Nat.mod_eq_zero_of_dvd (Nat.dvd_trans (Nat.dvd_of_mod_eq_zero (by omega)) (Nat.dvd_of_mod_eq_zero e)))
    · intro e; exact h 2 (by omega) (by omega) (Nat.mod_eq_zero_of_dvd (Nat.dvd_trans (Nat.dvd_of_mod_eq_zero (by omega)) (Nat.dvd_of_mod_eq_zero e)))
theorem clear_start {n : Nat} (h2 : n % 2 ≠ 0) (h3 : n % 3 ≠ 0) : Clear n 5 := by
  intro e e2 e5
  have : e = 2 ∨ e = 3 ∨ e = 4 := by omega
  rcases this with rfl | rfl | rfl
  · exact h2
  · exact h3
  · omega
theorem clear_prime {n d : Nat} (hn : 1 < n) (h : Clear n d) (hs : n < d * d) : Pr n := by
  refine ⟨hn, fun e e2 es => h e e2 ?_⟩
  rcases Nat.lt_or_ge e d with h' | h'
  · exact h'
  · have := Nat.mul_le_mul h' h'; omega
end Go.Proofs.Ytoeailhcobbhjaa
