/- The algorithm of Tonelli and Shanks: what a round keeps. -/
import Derived.Test.YtoeailhcobbhjaaPrimRoot
namespace Go.Proofs.Ytoeailhcobbhjaa
open Go.RowKit

/-- The state: root^2 is s * rest, unit has the order 2^t, that of rest divides 2^(t-1). -/
structure Ton (p : Nat) (s unit root rest : Int) (t : Nat) : Prop where
  pos : 1 ≤ t
  sq : (p : Int) ∣ root * root - s * rest
  un : (p : Int) ∣ unit ^ 2 ^ (t - 1) - -1
  re : (p : Int) ∣ rest ^ 2 ^ (t - 1) - 1
theorem dvd_sub_symm {m a b : Int} (h : m ∣ a - b) : m ∣ b - a := by
  have := Int.dvd_neg.2 h
  rwa [Int.neg_sub] at this
theorem dvd_refl_sub (m a : Int) : m ∣ a - a := by simp
theorem sq_pow (x : Int) (k : Nat) : x ^ 2 ^ (k + 1) = x ^ 2 ^ k * x ^ 2 ^ k := by
  rw [Nat.pow_succ, Int.pow_mul, Int.pow_succ, Int.pow_succ, Int.pow_zero, Int.one_mul]
theorem Ton.step {p : Nat} {s unit root rest f unit' root' rest' : Int} {t g : Nat} (hp : Pr p) (h : Ton p s unit root rest t) (hg : g + 1 ≤ t - 1) (h1 : (p : Int) ∣ rest ^ 2 ^ (g + 1) - 1) (h2 : ¬ (p : Int) ∣ rest ^ 2 ^ g - 1)
    (hf : (p : Int) ∣ f - unit ^ 2 ^ (t - (g + 1) - 1)) (hu : (p : Int) ∣ unit' - f * f) (hr : (p : Int) ∣ root' - root * f) (he : (p : Int) ∣ rest' - rest * unit') : Ton p s unit' root' rest' (g + 1) := by
  have hun : (p : Int) ∣ unit' ^ 2 ^ g - -1 := by
    have e1 := dvd_pow_sub hu (2 ^ g)
    have e2 := dvd_pow_sub hf (2 ^ (g + 1))
    rw [← Int.pow_mul, ← Nat.pow_add, show t - (g + 1) - 1 + (g + 1) = t - 1 by omega, sq_pow, ← Int.mul_pow] at e2
    exact dvd_sub_trans (dvd_sub_trans e1 e2) h.un
  have hre : (p : Int) ∣ rest ^ 2 ^ g - -1 := by
    rw [sq_pow, show rest ^ 2 ^ g * rest ^ 2 ^ g - 1 = (rest ^ 2 ^ g - 1) * (rest ^ 2 ^ g - -1) by grind] at h1
    exact (pr_int hp h1).resolve_left h2
  refine ⟨by omega, ?_, by simpa using hun, ?_⟩
  · have e1 := dvd_mul_sub hr hr
    have e2 := dvd_mul_sub h.sq (dvd_sub_symm hu)
    have e3 := dvd_mul_sub (dvd_refl_sub (p : Int) s) (dvd_sub_symm he)
    have e4 := dvd_sub_trans e1 (show (p : Int) ∣ root * f * (root * f) - s * (rest * unit') by
      rw [show root * f * (root * f) = root * root * (f * f) by grind, show s * (rest * unit') = s * rest * unit' by grind]; exact e2)
    exact dvd_sub_trans e4 e3
  · have e1 := dvd_pow_sub he (2 ^ g)
    have e2 := dvd_mul_sub hre hun
    rw [Int.mul_pow] at e1
    have := dvd_sub_trans e1 e2
    simpa using this
theorem Ton.start {p o t : Nat} {s c unit root rest : Int} (ho : o % 2 = 1) (hot : o * 2 ^ t = p - 1) (ht : 1 ≤ t) (hs : (p : Int) ∣ s ^ (p / 2) - 1) (hc : (p : Int) ∣ c ^ (p / 2) - -1)
    (hu : (p : Int) ∣ unit - c ^ o) (hr : (p : Int) ∣ root - s ^ ((o + 1) / 2)) (he : (p : Int) ∣ rest - s ^ o) : Ton p s unit root rest t := by
  obtain ⟨k, rfl⟩ : ∃ k, t = k + 1 := ⟨t - 1, by omega⟩
  have hh : o * 2 ^ k = p / 2 := by
    rw [Nat.pow_succ, ← Nat.mul_assoc] at hot
    have : 1 ≤ o * 2 ^ k := Nat.le_trans (show 1 ≤ 1 * 1 by omega) (Nat.mul_le_mul (by omega) (Nat.pow_pos (by omega)))
    omega
  refine ⟨ht, ?_, ?_, ?_⟩
  · have e1 := dvd_mul_sub hr hr
    have e2 := dvd_mul_sub (dvd_refl_sub (p : Int) s) (dvd_sub_symm he)
    refine dvd_sub_trans e1 ?_
    rw [← Int.pow_add, show (o + 1) / 2 + (o + 1) / 2 = o + 1 by omega, Int.pow_succ, Int.mul_comm]
    exact e2
  · have e1 := dvd_pow_sub hu (2 ^ k)
    rw [← Int.pow_mul, hh] at e1
    simpa using dvd_sub_trans e1 hc
  · have e1 := dvd_pow_sub he (2 ^ k)
    rw [← Int.pow_mul, hh] at e1
    simpa using dvd_sub_trans e1 hs
/-- A prime above 2 has a number that is no square. -/
theorem nonres {p : Nat} (hp : Pr p) (h2 : p ≠ 2) : ∃ c : Nat, 2 ≤ c ∧ c < p ∧ ¬ (p : Int) ∣ (c : Int) ^ (p / 2) - 1 := by
  have hp0 := hp.1
  have hd : ∃ c : Nat, 1 ≤ c ∧ c < p ∧ ¬ (p : Int) ∣ (c : Int) ^ (p / 2) - 1 := by
    by_cases h3 : p = 3
    · subst h3; exact ⟨2, by omega, by omega, by decide⟩
    · have h4 : p ≠ 4 := fun e => by subst e; exact hp.2 2 (by omega) (by omega) rfl
      exact not_root hp (by omega) (by omega)
  obtain ⟨c, c1, c2, c3⟩ := hd
  refine ⟨c, ?_, c2, c3⟩
  rcases Nat.lt_or_ge 1 c with h | h
  · exact h
  · exfalso
    obtain rfl : c = 1 := by omega
    exact c3 (by rw [show ((1 : Nat) : Int) = 1 from rfl, Int.one_pow]; simp)
end Go.Proofs.Ytoeailhcobbhjaa
