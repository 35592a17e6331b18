/- The closure of generators: one more generator. -/
import Derived.Test.YtlagljnhbhnelaaGnB
import Derived.Test.YtlagljnhbhnelaaCrtH
namespace Go.Proofs.Ytlagljnhbhnelaa
open Go.RowKit
set_option linter.unusedVariables false
set_option linter.unusedSimpArgs false

/-- The number below n that is a modulo q and 1 modulo n/q. -/
def crV (n q : Nat) (a : Int) : Nat := ((List.range n).find? fun (x : Nat) => decide ((q : Int) ∣ (x : Int) - a) && decide (((n / q : Nat) : Int) ∣ (x : Int) - 1)).getD 0
/-- What both congruences say. -/
structure CrF (n q : Nat) (a : Int) : Prop where
  n1 : 1 ≤ n
  n2 : n ≤ 60
  q1 : 1 ≤ q
  qn : q * (n / q) = n
  g : Nat.gcd q (n / q) = 1
  x : crV n q a < n
  d1 : (q : Int) ∣ (crV n q a : Int) - a
  d2 : ((n / q : Nat) : Int) ∣ (crV n q a : Int) - 1
theorem CrF.crt {n q : Nat} {a : Int} (h : CrF n q a) {r m e : Int} (hc : CrtIs [(a, (q : Int)), (1, ((n / q : Nat) : Int))] 0 1 r m e) : r = (crV n q a : Nat) ∧ e = 0 := by
  have hq1 := h.q1
  have hqn := h.qn
  have hn1 := h.n1
  have hn2 := h.n2
  have hx := h.x
  have hd1 := h.d1
  have hd2 := h.d2
  have hg := h.g
  have hp1 : 1 ≤ n / q := by
    rcases Nat.eq_zero_or_pos (n / q) with h0 | h0
    · rw [h0, Nat.mul_zero] at hqn; omega
    · exact h0
  have hqn2 : (q : Int) * ((n / q : Nat) : Int) = (n : Int) := by rw [← Int.natCast_mul, hqn]
  have hqle : q ≤ n := by rw [← hqn]; exact Nat.le_mul_of_pos_right _ hp1
  have hple : n / q ≤ n := Nat.div_le_self _ _
  generalize n / q = p at *
  generalize crV n q a = x at *
  -- the first step is (a mod q, q)
  have st1 : ∀ r' m' : Int, CombIs 0 1 a (q : Int) r' m' 0 → m' = (q : Int) ∧ 0 ≤ r' ∧ r' < (q : Int) ∧ (q : Int) ∣ r' - a := fun r' m' hh => by
    have g1 : Int.gcd 1 (q : Int) = 1 := Int.one_gcd
    rcases hh with ⟨_, _, _, h3⟩ | ⟨_, _, _, _, h3⟩ | ⟨_, _, _, _, _, h3⟩ | ⟨_, _, h1, h2, h3, _, h5, _⟩
    · cases h3
    · cases h3
    · cases h3
    · rw [g1] at h1
      have e : m' = (q : Int) := by rw [h1]; simp
      exact ⟨e, h2, by omega, h5⟩
  have no1 : ∀ e' : Int, e' ≠ 0 → ¬ CombIs 0 1 a (q : Int) 0 0 e' := fun e' he hh => by
    have g1 : Int.gcd 1 (q : Int) = 1 := Int.one_gcd
    rcases hh with ⟨h1, _⟩ | ⟨_, h1, _⟩ | ⟨_, _, h1, _⟩ | ⟨_, _, _, _, _, _, _, h1⟩
    · omega
    · exact h1 (by rw [g1]; exact ⟨a - 0, by simp⟩)
    · rw [g1] at h1; simp at h1; omega
    · exact he h1
  have g2 : Int.gcd (q : Int) (p : Int) = 1 := hg
  have st2 : ∀ r0 r' m' : Int, CombIs r0 (q : Int) 1 (p : Int) r' m' 0 → m' = (n : Int) ∧ 0 ≤ r' ∧ r' < (n : Int) ∧ (q : Int) ∣ r' - r0 ∧ (p : Int) ∣ r' - 1 := fun r0 r' m' hh => by
    rcases hh with ⟨_, _, _, h3⟩ | ⟨_, _, _, _, h3⟩ | ⟨_, _, _, _, _, h3⟩ | ⟨_, _, h1, h2, h3, h4, h5, _⟩
    · cases h3
    · cases h3
    · cases h3
    · rw [g2] at h1
      have e : m' = (n : Int) := by rw [h1]; simp; exact hqn2
      exact ⟨e, h2, by omega, h4, h5⟩
  have no2 : ∀ r0 e' : Int, e' ≠ 0 → ¬ CombIs r0 (q : Int) 1 (p : Int) 0 0 e' := fun r0 e' he hh => by
    rcases hh with ⟨h1, _⟩ | ⟨_, h1, _⟩ | ⟨_, _, h1, _⟩ | ⟨_, _, _, _, _, _, _, h1⟩
    · omega
    · exact h1 (by rw [g2]; exact ⟨1 - r0, by simp⟩)
    · rw [g2] at h1; simp at h1; omega
    · exact he h1
  rcases hc with ⟨he, rfl, rfl, hh⟩ | ⟨r0, m0, hh, hc⟩
  · exact absurd hh (no1 e he)
  · obtain ⟨rfl, a1, a2, a3⟩ := st1 r0 m0 hh
    rcases hc with ⟨he, rfl, rfl, hh⟩ | ⟨r1, m1, hh2, hr, hm, he⟩
    · exact absurd hh (no2 r0 e he)
    · obtain ⟨b0, b1, b2, b3, b4⟩ := st2 r0 r1 m1 hh2
      refine ⟨?_, he⟩
      rw [hr]
      have c1 : (q : Int) ∣ r1 - (x : Int) := by
        have := Int.dvd_sub (Int.dvd_add b3 a3) hd1
        rwa [show r1 - r0 + (r0 - a) - ((x : Int) - a) = r1 - (x : Int) by omega] at this
      have c2 : (p : Int) ∣ r1 - (x : Int) := by
        have := Int.dvd_sub b4 hd2
        rwa [show r1 - 1 - ((x : Int) - 1) = r1 - (x : Int) by omega] at this
      have c3 := lcm_dvd (show (p : Int) ≠ 0 by omega) c1 c2
      rw [g2] at c3
      have c4 : (n : Int) ∣ r1 - (x : Int) := by
        have e : (q : Int) * ((p : Int) / ((1 : Nat) : Int)) = (n : Int) := by simp; exact hqn2
        rwa [e] at c3
      have := Int.eq_zero_of_dvd_of_natAbs_lt_natAbs c4 (by omega)
      omega
end Go.Proofs.Ytlagljnhbhnelaa
