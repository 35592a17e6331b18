/- Plain mathematics of continued fractions: the expansion of a fraction. -/
import Derived.Test.YtbkombklfpjjpaaCuspM
namespace Go.Proofs.Ytbkombklfpjjpaa

/-- The expansion of p/q; the first number is the fuel. -/
def cfl : Nat → Int → Int → List Int
  | 0, _, _ => []
  | f + 1, p, q => if q = 0 then [] else p / q :: cfl f q (p % q)
theorem cfl_zero {f : Nat} {p : Int} : cfl f p 0 = [] := by cases f <;> rfl
theorem cfl_next {f : Nat} {p q : Int} (h : q ≠ 0) : cfl (f + 1) p q = p / q :: cfl f q (p % q) := if_neg h
/-- More fuel than the denominator changes nothing. -/
theorem cfl_fuel : ∀ (f g : Nat) (p q : Int), 0 ≤ q → q < f → q < g → cfl f p q = cfl g p q
  | 0, _, _, _, h0, h1, _ => by omega
  | _, 0, _, _, h0, _, h2 => by omega
  | f + 1, g + 1, p, q, h0, h1, h2 => by
    by_cases hq : q = 0
    · subst hq; rfl
    · rw [cfl_next hq, cfl_next hq]
      have m1 := Int.emod_nonneg p hq
      have m2 := Int.emod_lt_of_pos p (show 0 < q by omega)
      rw [cfl_fuel f g q (p % q) m1 (by omega) (by omega)]
theorem cfl_len : ∀ (f : Nat) (p q : Int), (cfl f p q).length ≤ f
  | 0, _, _ => Nat.le_refl _
  | f + 1, p, q => by
    by_cases hq : q = 0
    · subst hq; rw [cfl_zero]; simp
    · rw [cfl_next hq, List.length_cons]; exact Nat.succ_le_succ (cfl_len f _ _)
theorem tmod_up {p q : Int} (hq : 0 < q) (h : p.tmod q < 0) : p.tmod q + q = p % q := by
  have hlt := Int.lt_tmod_of_pos p hq
  have e := Int.mul_tdiv_add_tmod p q
  have : p = (p.tmod q + q) + q * (p.tdiv q - 1) := by rw [Int.mul_sub]; omega
  conv => rhs; rw [this, Int.add_mul_emod_self_left]
  exact (Int.emod_eq_of_lt (by omega) (by omega)).symm
theorem tmod_ok {p q : Int} (hq : 0 < q) (h : 0 ≤ p.tmod q) : p.tmod q = p % q := by
  have hlt := Int.tmod_lt_of_pos p hq
  have e := Int.mul_tdiv_add_tmod p q
  have : p = p.tmod q + q * p.tdiv q := by omega
  conv => rhs; rw [this, Int.add_mul_emod_self_left]
  exact (Int.emod_eq_of_lt (by omega) (by omega)).symm
theorem floor_of {p q : Int} (hq : 0 < q) : (p - p % q).tdiv q = p / q := by
  have e := Int.mul_ediv_add_emod p q
  rw [show p - p % q = q * (p / q) by omega, Int.mul_tdiv_cancel_left _ (by omega)]
theorem floor_bd {p q : Int} (hq : 0 < q) (h1 : -1073741824 ≤ p) (h2 : p ≤ 1073741824) : -1073741824 ≤ p / q ∧ p / q ≤ 1073741824 := by
  constructor
  · refine (Int.le_ediv_iff_mul_le hq).2 ?_
    have := Int.mul_le_mul_of_nonpos_left (show (-1073741824 : Int) ≤ 0 by decide) (show 1 ≤ q by omega)
    omega
  · rcases Int.lt_or_le p 0 with h | h
    · have := Int.ediv_neg_of_neg_of_pos h hq; omega
    · exact Int.le_trans (Int.ediv_le_self q h) h2
end Go.Proofs.Ytbkombklfpjjpaa
