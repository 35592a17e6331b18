/- Products of values of characters, as plain numbers. -/
import Derived.Test.YtdbleaalpdemnaaCharM
import Derived.Test.YtdbleaalpdemnaaValL
namespace Go.Proofs.Ytdbleaalpdemnaa
set_option linter.unusedVariables false

theorem red_scale (x y c : Nat) (hc : 0 < c) : x * c / Nat.gcd (x * c) (y * c) = x / Nat.gcd x y := by
  rw [Nat.gcd_mul_right, Nat.mul_div_mul_right _ _ hc]
/-- The sum of two fractions modulo 1, reduced. -/
theorem red_add {k1 k2 m : Nat} (m1 : 1 ≤ m) (N D : Nat) (hN : N = k1 / Nat.gcd k1 m * (m / Nat.gcd k2 m) + k2 / Nat.gcd k2 m * (m / Nat.gcd k1 m)) (hD : D = m / Nat.gcd k1 m * (m / Nat.gcd k2 m)) :
    1 ≤ D ∧ N % D / Nat.gcd (N % D) D = (k1 + k2) % m / Nat.gcd ((k1 + k2) % m) m ∧ D / Nat.gcd (N % D) D = m / Nat.gcd ((k1 + k2) % m) m := by
  have p1 : 0 < Nat.gcd k1 m := Nat.gcd_pos_of_pos_right k1 m1
  have p2 : 0 < Nat.gcd k2 m := Nat.gcd_pos_of_pos_right k2 m1
  have e1 := Nat.div_mul_cancel (Nat.gcd_dvd_left k1 m)
  have e2 := Nat.div_mul_cancel (Nat.gcd_dvd_right k1 m)
  have e3 := Nat.div_mul_cancel (Nat.gcd_dvd_left k2 m)
  have e4 := Nat.div_mul_cancel (Nat.gcd_dvd_right k2 m)
  generalize Nat.gcd k1 m = g1 at *
  generalize Nat.gcd k2 m = g2 at *
  generalize k1 / g1 = a1 at *
  generalize k2 / g2 = a2 at *
  generalize m / g1 = d1 at *
  generalize m / g2 = d2 at *
  have hG : 0 < g1 * g2 := Nat.mul_pos p1 p2
  have hDG : D * (g1 * g2) = m * m := by
    rw [hD]
    calc d1 * d2 * (g1 * g2) = (d1 * g1) * (d2 * g2) := by rw [Nat.mul_mul_mul_comm]
      _ = m * m := by rw [e2, e4]
  have hNG : N * (g1 * g2) = (k1 + k2) * m := by
    rw [hN, Nat.add_mul, Nat.add_mul]
    congr 1
    · calc a1 * d2 * (g1 * g2) = (a1 * g1) * (d2 * g2) := by rw [Nat.mul_mul_mul_comm]
        _ = k1 * m := by rw [e1, e4]
    · calc a2 * d1 * (g1 * g2) = (a2 * g2) * (d1 * g1) := by rw [Nat.mul_comm g1 g2, Nat.mul_mul_mul_comm]
        _ = k2 * m := by rw [e3, e2]
  have hD1 : 1 ≤ D := Nat.pos_of_ne_zero fun h0 => by
    rw [h0, Nat.zero_mul] at hDG
    have := Nat.mul_pos m1 m1
    omega
  have hr : N % D * (g1 * g2) = (k1 + k2) % m * m := by
    rw [← Nat.mul_mod_mul_right, hNG, hDG, Nat.mul_mod_mul_right]
  refine ⟨hD1, ?_, ?_⟩
  · rw [← red_scale (N % D) D (g1 * g2) hG, hr, hDG, red_scale _ _ m m1]
  · have h9 := red_scale D (N % D) (g1 * g2) hG
    rw [Nat.gcd_comm (D * (g1 * g2)), hr, hDG, Nat.gcd_comm D] at h9
    rw [← h9]
    have h8 := red_scale m ((k1 + k2) % m) m m1
    rw [Nat.gcd_comm (m * m), Nat.gcd_comm m] at h8
    exact h8
/-- The logarithm of a product. -/
def lgM (k1 k2 : Int) (m : Nat) : Int := if k1 = -1 ∨ k2 = -1 then -1 else (k1 + k2) % (m : Int)
theorem gcd_modn (x n : Nat) : Nat.gcd (x % n) n = Nat.gcd x n := by
  rw [← Nat.gcd_rec n x, Nat.gcd_comm]
theorem ChT.prod {n m : Nat} {T : List Int} (h : ChT n m T) (n1 : 1 ≤ n) (a b : Int) : T.getD ((a * b) % (n : Int)).toNat 0 = lgM (T.getD (a % (n : Int)).toNat 0) (T.getD (b % (n : Int)).toNat 0) m := by
  have hn : (n : Int) ≠ 0 := by omega
  have a0 := Int.emod_nonneg a hn
  have b0 := Int.emod_nonneg b hn
  have a1 := Int.emod_lt_of_pos a (show 0 < (n : Int) by omega)
  have b1 := Int.emod_lt_of_pos b (show 0 < (n : Int) by omega)
  have e : (a * b) % (n : Int) = ((((a % (n : Int)).toNat * (b % (n : Int)).toNat % n : Nat)) : Int) := by
    rw [Int.natCast_emod, Int.natCast_mul, Int.toNat_of_nonneg a0, Int.toNat_of_nonneg b0, ← Int.mul_emod]
  rw [e, Int.toNat_natCast]
  generalize ha : (a % (n : Int)).toNat = i
  generalize hb : (b % (n : Int)).toNat = j
  have hi : i < n := by omega
  have hj : j < n := by omega
  have hij : i * j % n < n := Nat.mod_lt _ (by omega)
  unfold lgM
  by_cases gi : Nat.gcd i n = 1
  · by_cases gj : Nat.gcd j n = 1
    · rw [if_neg (by have := h.yes i hi gi; have := h.yes j hj gj; omega)]
      exact h.mul i j hi hj gi gj
    · rw [if_pos (.inr (h.no j hj gj))]
      refine h.no _ hij fun hg => gj ?_
      rw [gcd_modn] at hg
      exact Nat.Coprime.coprime_mul_left hg
  · rw [if_pos (.inl (h.no i hi gi))]
    refine h.no _ hij fun hg => gi ?_
    rw [gcd_modn] at hg
    exact Nat.Coprime.coprime_mul_right hg
theorem ChT.bd {n m : Nat} {T : List Int} (h : ChT n m T) (n1 : 1 ≤ n) (a : Int) : -1 ≤ T.getD (a % (n : Int)).toNat 0 ∧ T.getD (a % (n : Int)).toNat 0 < (m : Int) := by
  have hn : (n : Int) ≠ 0 := by omega
  have a0 := Int.emod_nonneg a hn
  have a1 := Int.emod_lt_of_pos a (show 0 < (n : Int) by omega)
  have hm := h.m1
  generalize ha : (a % (n : Int)).toNat = i
  have hi : i < n := by omega
  by_cases g : Nat.gcd i n = 1
  · have := h.yes i hi g; omega
  · rw [h.no i hi g]; omega
theorem mod_shift (a k : Int) (n : Nat) : (a + k * (n : Int)) % (n : Int) = a % (n : Int) := Int.add_mul_emod_self_right a k n
end Go.Proofs.Ytdbleaalpdemnaa
