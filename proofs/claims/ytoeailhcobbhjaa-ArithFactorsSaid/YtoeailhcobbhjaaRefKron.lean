/- The contract of halfplaneref03.Kronecker: it is the same symbol. -/
import Derived.Test.YtoeailhcobbhjaaPower
import Derived.Test.YtoeailhcobbhjaaEuler
import Derived.Test.YtoeailhcobbhjaaRefFac
import Derived.Test.YtoeailhcobbhjaaLawRecip
namespace Go.Proofs.Ytoeailhcobbhjaa
open Go.RowKit

/-- The symbol at a prime. -/
def lg (a : Int) (p : Nat) : Int := if p = 2 then val2 a else jacI a p
/-- The product over a factorization. -/
def prodL (a : Int) : List (Nat × Nat) → Int
  | [] => 1
  | q :: F => lg a q.1 ^ q.2 * prodL a F
theorem prodL_append (a : Int) (F G : List (Nat × Nat)) : prodL a (F ++ G) = prodL a F * prodL a G := by
  induction F with
  | nil => simp [prodL]
  | cons q F ih => simp only [List.cons_append, prodL, ih]; rw [Int.mul_assoc]
theorem jacI_one (a : Int) : jacI a 1 = 1 := by
  unfold jacI
  rw [jac_one, if_neg (by omega)]; rfl
theorem jacI_pow (a : Int) {p : Nat} (hp : p % 2 = 1) (e : Nat) : jacI a (p ^ e) = jacI a p ^ e ∧ p ^ e % 2 = 1 := by
  induction e with
  | zero => exact ⟨by rw [Nat.pow_zero, Int.pow_zero, jacI_one], rfl⟩
  | succ e ih =>
    rw [Nat.pow_succ, Int.pow_succ, jacI_mul_right a ih.2 hp, ih.1]
    exact ⟨rfl, by rw [Nat.mul_mod, ih.2, hp]⟩
theorem prodL_odd (a : Int) : ∀ F : List (Nat × Nat), (∀ q ∈ F, q.1 % 2 = 1) → prodL a F = jacI a (prod (F.map fun p => p.1 ^ p.2)) ∧ prod (F.map fun p => p.1 ^ p.2) % 2 = 1 := by
  intro F
  induction F with
  | nil => intro _; exact ⟨(jacI_one a).symm, rfl⟩
  | cons q F ih =>
    intro h
    obtain ⟨i1, i2⟩ := ih (fun x hx => h x (by simp [hx]))
    have hq := h q (by simp)
    obtain ⟨j1, j2⟩ := jacI_pow a hq q.2
    simp only [List.map_cons, prod, prodL]
    rw [jacI_mul_right a j2 i2, i1, j1]
    refine ⟨?_, by rw [Nat.mul_mod, j2, i2]⟩
    unfold lg
    rw [if_neg (by omega)]
theorem pr_odd {p : Nat} (h : Pr p) (h3 : 3 ≤ p) : p % 2 = 1 := by
  rcases Nat.mod_two_eq_zero_or_one p with e | e
  · exact absurd e (h.div (by omega) (by omega))
  · exact e
/-- The Kronecker symbol is the product over the factorization. -/
theorem kron_prod {a n : Int} (hn : n ≠ 0) : kron a n = sg a n * prodL a (facs 2 n.natAbs) := by
  have hn1 : 1 ≤ n.natAbs := by omega
  obtain ⟨e, o, o1⟩ := strip_parts hn1
  have h3 := facs_is (strip n.natAbs 2 n.natAbs).2 3 (strip n.natAbs 2 n.natAbs).2 (by omega) (by omega) o1 (fun x x2 x3 => by
    have : x = 2 := by omega
    subst this; omega)
  rw [facs_two hn1, prodL_append, (prodL_odd a _ (fun q hq => pr_odd (h3.mem q hq).1 (h3.mem q hq).2.1)).1, h3.mul]
  have hpart : prodL a (part 2 (strip n.natAbs 2 n.natAbs).1) = val2 a ^ (strip n.natAbs 2 n.natAbs).1 := by
    unfold part
    split
    · simp [prodL, lg]
    · rename_i h
      rw [show (strip n.natAbs 2 n.natAbs).1 = 0 by omega, Int.pow_zero]
      rfl
  rw [hpart]
  by_cases hbad : a % 2 = 0 ∧ n % 2 = 0
  · rw [kron_two hn hbad]
    have hk : (strip n.natAbs 2 n.natAbs).1 ≠ 0 := fun h0 => by
      rw [h0, Nat.pow_zero, Nat.mul_one] at e
      omega
    obtain ⟨k, hk'⟩ : ∃ k, (strip n.natAbs 2 n.natAbs).1 = k + 1 := ⟨(strip n.natAbs 2 n.natAbs).1 - 1, by omega⟩
    unfold val2
    rw [if_pos hbad.1, hk', Int.pow_succ]
    simp
  · rw [kron_def hn hbad, Int.mul_assoc]
    by_cases ha : a % 2 = 0
    · have hodd : n.natAbs % 2 = 1 := by omega
      rw [strip_of_odd hodd, Int.pow_zero, Int.pow_zero]
    · have : val2 a = t8 a := by unfold val2; rw [if_neg ha]
      rw [this]
theorem lg_cases (a : Int) (p : Nat) : lg a p = 0 ∨ lg a p = 1 ∨ lg a p = -1 := by
  unfold lg
  split
  · unfold val2
    have := t8_cases a
    split
    · exact .inl rfl
    · omega
  · unfold jacI
    have := jac_cases a.natAbs p
    split <;> omega
/-- What the power tells. -/
theorem power_lg {a : Int} {p : Nat} (hp : Pr p) (h2 : p ≠ 2) : (a ^ (p / 2) % (p : Int) = (p : Int) - 1 → lg a p = -1) ∧ (a ^ (p / 2) % (p : Int) ≠ (p : Int) - 1 → lg a p = a ^ (p / 2) % (p : Int)) := by
  have h := euler_int (a := a) hp h2
  have hl := lg_cases a p
  have hp3 : 3 ≤ p := by have := hp.1; omega
  have e : lg a p = jacI a p := by unfold lg; rw [if_neg h2]
  rw [e] at hl ⊢
  have hm : a ^ (p / 2) % (p : Int) = jacI a p % (p : Int) := by
    obtain ⟨t, ht⟩ := h
    rw [show a ^ (p / 2) = jacI a p + (p : Int) * t by omega, Int.add_mul_emod_self_left]
  rw [hm]
  have m1 : (1 : Int) % (p : Int) = 1 := Int.emod_eq_of_lt (by omega) (by omega)
  have m0 : (-1 : Int) % (p : Int) = (p : Int) - 1 := by
    rw [show (-1 : Int) = ((p : Int) - 1) + (p : Int) * (-1) by omega, Int.add_mul_emod_self_left, Int.emod_eq_of_lt (by omega) (by omega)]
  rcases hl with h | h | h <;> rw [h]
  · rw [Int.zero_emod]; omega
  · rw [m1]; omega
  · rw [m0]; omega
theorem pow_cases {s : Int} (h : s = 0 ∨ s = 1 ∨ s = -1) (k : Nat) : s ^ k = 0 ∨ s ^ k = 1 ∨ s ^ k = -1 := by
  induction k with
  | zero => simp
  | succ k ih =>
    rw [Int.pow_succ]
    rcases ih with i | i | i <;> rcases h with j | j | j <;> rw [i, j] <;> decide
theorem prodL_cases (a : Int) (F : List (Nat × Nat)) : prodL a F = 0 ∨ prodL a F = 1 ∨ prodL a F = -1 := by
  induction F with
  | nil => exact .inr (.inl rfl)
  | cons q F ih =>
    simp only [prodL]
    rcases pow_cases (lg_cases a q.1) q.2 with i | i | i <;> rcases ih with j | j | j <;> rw [i, j] <;> decide
theorem prodL_take {a : Int} {F : List (Nat × Nat)} {k : Nat} (h : k < F.length) : prodL a (F.take (k + 1)) = prodL a (F.take k) * lg a F[k].1 ^ F[k].2 := by
  rw [List.take_succ_eq_append_getElem h, prodL_append]
  simp [prodL]
theorem tri_mul {x y : Int} (h : x = 0 ∨ x = 1 ∨ x = -1) (k : y = 0 ∨ y = 1 ∨ y = -1) : x * y = 0 ∨ x * y = 1 ∨ x * y = -1 := by
  rcases h with i | i | i <;> rcases k with j | j | j <;> rw [i, j] <;> decide
end Go.Proofs.Ytoeailhcobbhjaa
