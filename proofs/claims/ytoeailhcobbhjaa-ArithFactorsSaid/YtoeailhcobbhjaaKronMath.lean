/- The Kronecker symbol is multiplicative in both arguments, obeys reciprocity, and is periodic for fundamental discriminants. Nothing of the program. -/
import Derived.Test.YtoeailhcobbhjaaKronC
import Derived.Test.YtoeailhcobbhjaaFund
namespace Go.Proofs.Ytoeailhcobbhjaa

theorem strip_two : ∀ (k o r f : Nat), r = o * 2 ^ k → o % 2 = 1 → r ≤ f → strip f 2 r = (k, o) := by
  intro k
  induction k with
  | zero =>
    intro o r f h ho hf
    rw [Nat.pow_zero, Nat.mul_one] at h
    subst h
    obtain ⟨f, rfl⟩ : ∃ f', f = f' + 1 := ⟨f - 1, by omega⟩
    exact strip_miss (by omega)
  | succ k ih =>
    intro o r f h ho hf
    have hpow : 1 ≤ 2 ^ k := Nat.pow_pos (by decide)
    have h1 : 1 ≤ o * 2 ^ k := Nat.mul_le_mul (show 1 ≤ o by omega) hpow
    have e : r = 2 * (o * 2 ^ k) := by rw [h, Nat.pow_succ]; grind
    obtain ⟨f, rfl⟩ : ∃ f', f = f' + 1 := ⟨f - 1, by omega⟩
    rw [strip_hit (by omega), ih o (r / 2) f (by omega) ho (by omega)]
theorem strip_parts {r : Nat} (hr : 1 ≤ r) : r = (strip r 2 r).2 * 2 ^ (strip r 2 r).1 ∧ (strip r 2 r).2 % 2 = 1 ∧ 1 ≤ (strip r 2 r).2 :=
  ⟨strip_mul.symm, strip_odd hr, strip_pos (by decide) hr⟩
theorem strip_prod {r s : Nat} (hr : 1 ≤ r) (hs : 1 ≤ s) : strip (r * s) 2 (r * s) = ((strip r 2 r).1 + (strip s 2 s).1, (strip r 2 r).2 * (strip s 2 s).2) := by
  obtain ⟨e1, o1, _⟩ := strip_parts hr
  obtain ⟨e2, o2, _⟩ := strip_parts hs
  refine strip_two _ _ _ _ ?_ (by rw [Nat.mul_mod, o1, o2]) (Nat.le_refl _)
  conv => lhs; rw [e1, e2]
  rw [Nat.pow_add]
  grind
theorem strip_of_odd {r : Nat} (h : r % 2 = 1) : strip r 2 r = (0, r) := strip_two 0 r r r (by simp) h (Nat.le_refl _)

theorem mod8_mul (a b : Int) : (a * b) % 8 = (a % 8) * (b % 8) % 8 := Int.mul_emod _ _ _
theorem t8_mul {a b : Int} (ha : a % 2 = 1) (hb : b % 2 = 1) : t8 (a * b) = t8 a * t8 b := by
  unfold t8
  rw [mod8_mul]
  have h1 : a % 8 = 1 ∨ a % 8 = 3 ∨ a % 8 = 5 ∨ a % 8 = 7 := by omega
  have h2 : b % 8 = 1 ∨ b % 8 = 3 ∨ b % 8 = 5 ∨ b % 8 = 7 := by omega
  rcases h1 with h1 | h1 | h1 | h1 <;> rcases h2 with h2 | h2 | h2 | h2 <;> rw [h1, h2] <;> decide
theorem two8_mul {m n : Nat} (hm : m % 2 = 1) (hn : n % 2 = 1) : two8 (m * n) = two8 m * two8 n := by
  unfold two8
  rw [Nat.mul_mod]
  have h1 : m % 8 = 1 ∨ m % 8 = 3 ∨ m % 8 = 5 ∨ m % 8 = 7 := by omega
  have h2 : n % 8 = 1 ∨ n % 8 = 3 ∨ n % 8 = 5 ∨ n % 8 = 7 := by omega
  rcases h1 with h1 | h1 | h1 | h1 <;> rcases h2 with h2 | h2 | h2 | h2 <;> rw [h1, h2] <;> decide
theorem jac_mul_all : ∀ (a m n : Nat), m % 2 = 1 → n % 2 = 1 → jac a (m * n) = jac a m * jac a n := by
  intro a
  induction a using Nat.strongRecOn with
  | ind a ih =>
    intro m n hm hn
    have hmn : m * n % 2 = 1 := by rw [Nat.mul_mod, hm, hn]
    by_cases h1 : a % 2 = 1
    · exact jac_mul_right a m n hm hn h1
    · by_cases h0 : a = 0
      · subst h0
        rw [jac_zero, jac_zero, jac_zero]
        by_cases e1 : m = 1
        · subst e1; simp
        · rw [if_neg e1, if_neg (fun e => e1 (Nat.eq_one_of_mul_eq_one_right e)), Int.zero_mul]
      · have e : a = 2 * (a / 2) := by omega
        have hi := ih (a / 2) (by omega) m n hm hn
        rw [e, jac_mul _ _ _ hmn, jac_mul _ _ _ hm, jac_mul _ _ _ hn, jac_two hmn, jac_two hm, jac_two hn, two8_mul hm hn, hi]
        grind
theorem jacI_mul (a b : Int) {n : Nat} (hn : n % 2 = 1) : jacI (a * b) n = jacI a n * jacI b n := by
  unfold jacI
  rw [Int.natAbs_mul, jac_mul _ _ _ hn]
  by_cases h4 : n % 4 = 3
  · have hz : ∀ x : Int, x.natAbs = 0 → jac x.natAbs n = 0 := fun x hx => by rw [hx, jac_zero, if_neg (by omega)]
    rcases Int.lt_trichotomy a 0 with ha | ha | ha <;> rcases Int.lt_trichotomy b 0 with hb | hb | hb
    · have := Int.mul_pos_of_neg_of_neg ha hb
      rw [if_neg (by omega), if_pos ⟨ha, h4⟩, if_pos ⟨hb, h4⟩]; grind
    · rw [hz b (by omega)]; simp
    · have := Int.mul_neg_of_neg_of_pos ha hb
      rw [if_pos ⟨this, h4⟩, if_pos ⟨ha, h4⟩, if_neg (by omega)]; grind
    · rw [hz a (by omega)]; simp
    · rw [hz a (by omega)]; simp
    · rw [hz a (by omega)]; simp
    · have := Int.mul_neg_of_pos_of_neg ha hb
      rw [if_pos ⟨this, h4⟩, if_neg (by omega), if_pos ⟨hb, h4⟩]; grind
    · rw [hz b (by omega)]; simp
    · have := Int.mul_pos ha hb
      rw [if_neg (by omega), if_neg (by omega), if_neg (by omega)]; grind
  · rw [if_neg (by omega), if_neg (by omega), if_neg (by omega)]; grind
theorem kron_def {a n : Int} (hn : n ≠ 0) (h : ¬ (a % 2 = 0 ∧ n % 2 = 0)) : kron a n = sg a n * t8 a ^ (strip n.natAbs 2 n.natAbs).1 * jacI a (strip n.natAbs 2 n.natAbs).2 := by
  unfold kron; rw [if_neg hn, if_neg h]
theorem kron_two {a n : Int} (hn : n ≠ 0) (h : a % 2 = 0 ∧ n % 2 = 0) : kron a n = 0 := by
  unfold kron; rw [if_neg hn, if_pos h]
theorem sg_pos {a n : Int} (h : 0 < n) : sg a n = 1 := by unfold sg; rw [if_neg (by omega)]
theorem sg_pos' {a n : Int} (h : 0 < a) : sg a n = 1 := by unfold sg; rw [if_neg (by omega)]
theorem natAbs_odd {n : Int} (h : n % 2 = 1) : n.natAbs % 2 = 1 := by omega
theorem kron_odd {a n : Int} (hn : 0 < n) (h : n % 2 = 1) : kron a n = jacI a n.natAbs := by
  rw [kron_def (by omega) (by omega), sg_pos hn, strip_of_odd (natAbs_odd h)]
  simp
theorem emod_mul_two (a b : Int) : (a * b) % 2 = (a % 2) * (b % 2) % 2 := Int.mul_emod _ _ _
theorem kron_mul_left {a b n : Int} (hn : 0 < n) : kron (a * b) n = kron a n * kron b n := by
  have hn0 : n ≠ 0 := by omega
  have e := emod_mul_two a b
  by_cases h : n % 2 = 1
  · rw [kron_odd hn h, kron_odd hn h, kron_odd hn h, jacI_mul a b (natAbs_odd h)]
  · have hn2 : n % 2 = 0 := by omega
    by_cases ha : a % 2 = 0
    · rw [kron_two hn0 ⟨by rw [e, ha]; simp, hn2⟩, kron_two hn0 ⟨ha, hn2⟩, Int.zero_mul]
    · by_cases hb : b % 2 = 0
      · rw [kron_two hn0 ⟨by rw [e, hb]; simp, hn2⟩, kron_two (a := b) hn0 ⟨hb, hn2⟩, Int.mul_zero]
      · have ha1 : a % 2 = 1 := by omega
        have hb1 : b % 2 = 1 := by omega
        have hab : (a * b) % 2 = 1 := by rw [e, ha1, hb1]; rfl
        obtain ⟨_, ho, _⟩ := strip_parts (r := n.natAbs) (by omega)
        rw [kron_def hn0 (by omega), kron_def hn0 (by omega), kron_def hn0 (by omega), sg_pos hn, sg_pos hn, sg_pos hn, t8_mul ha1 hb1, jacI_mul a b ho, Int.mul_pow]
        grind
theorem jacI_pos {a : Int} (h : 0 < a) (n : Nat) : jacI a n = jac a.natAbs n := by unfold jacI; rw [if_neg (by omega), Int.one_mul]
theorem kron_mul_right {a b n : Int} (hn : 0 < n) (ha : a ≠ 0) (hb : b ≠ 0) : kron n (a * b) = kron n a * kron n b := by
  have hab0 : a * b ≠ 0 := Int.mul_ne_zero ha hb
  have e := emod_mul_two a b
  by_cases hbad : n % 2 = 0 ∧ (a * b) % 2 = 0
  · rw [kron_two hab0 hbad]
    by_cases h1 : a % 2 = 0
    · rw [kron_two ha ⟨hbad.1, h1⟩, Int.zero_mul]
    · have h2 : b % 2 = 0 := by
        rcases Int.emod_two_eq b with h | h
        · exact h
        · have : (a * b) % 2 = 1 := by rw [e, show a % 2 = 1 by omega, h]; rfl
          omega
      rw [kron_two (a := n) hb ⟨hbad.1, h2⟩, Int.mul_zero]
  · have h1 : ¬ (n % 2 = 0 ∧ a % 2 = 0) := fun h => hbad ⟨h.1, by rw [e, h.2]; simp⟩
    have h2 : ¬ (n % 2 = 0 ∧ b % 2 = 0) := fun h => hbad ⟨h.1, by rw [e, h.2]; simp⟩
    obtain ⟨_, o1, _⟩ := strip_parts (r := a.natAbs) (by omega)
    obtain ⟨_, o2, _⟩ := strip_parts (r := b.natAbs) (by omega)
    rw [kron_def hab0 hbad, kron_def ha h1, kron_def hb h2, sg_pos' hn, sg_pos' hn, sg_pos' hn, Int.natAbs_mul, strip_prod (by omega) (by omega)]
    simp only [jacI_pos hn]
    rw [jac_mul_all _ _ _ o1 o2, Int.pow_add]
    grind
/-- Reciprocity for odd positive numbers. -/
theorem kron_recip {a n : Int} (ha : 1 ≤ a) (hn : 1 ≤ n) (ha2 : a % 2 = 1) (hn2 : n % 2 = 1) :
    kron a n * kron n a = if Int.gcd a n ≠ 1 then 0 else if a % 4 = 3 ∧ n % 4 = 3 then -1 else 1 := by
  rw [kron_odd (by omega) hn2, kron_odd (by omega) ha2, jacI_pos (by omega), jacI_pos (by omega)]
  have hg : Int.gcd a n = Nat.gcd a.natAbs n.natAbs := rfl
  by_cases hc : Int.gcd a n = 1
  · rw [if_neg (by simpa using hc), jac_recip (natAbs_odd hn2) (natAbs_odd ha2)]
    have hj : jac n.natAbs a.natAbs = 1 ∨ jac n.natAbs a.natAbs = -1 := by
      unfold jac
      have hc' : Nat.gcd n.natAbs a.natAbs = 1 := by rw [Nat.gcd_comm]; exact hc
      rw [if_pos hc']
      split <;> simp
    by_cases h4 : a % 4 = 3 ∧ n % 4 = 3
    · rw [if_pos h4, if_pos (by omega)]
      rcases hj with h | h <;> rw [h] <;> rfl
    · rw [if_neg h4, if_neg (by omega)]
      rcases hj with h | h <;> rw [h] <;> rfl
  · rw [if_pos hc]
    have : jac a.natAbs n.natAbs = 0 := by unfold jac; rw [if_neg (by rw [← hg]; exact hc)]
    rw [this, Int.zero_mul]
end Go.Proofs.Ytoeailhcobbhjaa
