/- The formula of the dimensions: what was decided, in use. -/
import Derived.Test.YtlagljnhbhnelaaDimT
namespace Go.Proofs.Ytlagljnhbhnelaa
set_option linter.unusedVariables false
set_option linter.unusedSimpArgs false

theorem mem_dLv {n : Nat} {D : Int} (h : fdB D = true) (h1 : -120 ≤ D) (h2 : D ≤ 120) (hm : (n : Int) % D = 0) : D ∈ dLv n := by
  unfold dLv
  rw [List.mem_filter, ← fdl_eq]
  refine ⟨?_, decide_eq_true hm⟩
  unfold fdL
  rw [List.mem_filter]
  exact ⟨List.mem_map.2 ⟨(D + 120).toNat, List.mem_range.2 (by omega), by omega⟩, h⟩
/-- A level and a discriminant that divides it. -/
structure LD (n : Nat) (D : Int) : Prop where
  n1 : 1 ≤ n
  n2 : n ≤ 120
  f : fdB D = true
  d1 : -120 ≤ D
  d2 : D ≤ 120
  m : (n : Int) % D = 0
structure DF (n : Nat) (D : Int) : Prop where
  r4 : ∀ a, 1 ≤ a → a ≤ n → rt4 n a = true → Nat.gcd a n = 1 ∧ kron D (a : Int) = rkV D a
  r3 : ∀ a, 1 ≤ a → a ≤ n → rt3 n a = true → Nat.gcd a n = 1 ∧ kron D (a : Int) = rkV D a
  lb : ∀ k, k ≤ (facs 2 n).length → lamF D.natAbs ((facs 2 n).take k) 1 ≤ 1000
  lr : ∀ t, t < n → lamR n D.natAbs t ≤ 1000
  lf : ∀ t, t < n → (primeB (t + 2) && decide (n % (t + 2) = 0)) = true → locF (t + 2) (strip n (t + 2) n).1 (strip D.natAbs (t + 2) D.natAbs).1 ≤ 1000 ∧ (strip n (t + 2) n).1 ≤ 7 ∧ (strip D.natAbs (t + 2) D.natAbs).1 ≤ (strip n (t + 2) n).1 ∧ 1 ≤ (strip n (t + 2) n).1
  le : lamR n D.natAbs (n - 1) = lamP n D.natAbs
  q : ∀ q ∈ facs 2 n, 2 ≤ q.1 ∧ q.1 ≤ 120 ∧ 1 ≤ q.2 ∧ q.2 ≤ 7 ∧ (strip D.natAbs q.1 D.natAbs).1 ≤ q.2 ∧ locF q.1 q.2 (strip D.natAbs q.1 D.natAbs).1 ≤ 1000
theorem LD.df {n : Nat} {D : Int} (h : LD n D) : DF n D := by
  have h0 := List.all_eq_true.1 d_allR (n - 1) (List.mem_range.2 (by have := h.n1; have := h.n2; omega))
  rw [show n - 1 + 1 = n by have := h.n1; omega] at h0
  have h1 := List.all_eq_true.1 h0 D (mem_dLv h.f h.d1 h.d2 h.m)
  unfold dOk at h1
  simp only [Bool.and_eq_true, Bool.or_eq_true, Bool.not_eq_true', beq_iff_eq, List.all_eq_true, List.mem_range, decide_eq_true_eq] at h1
  obtain ⟨⟨⟨⟨a1, a2⟩, a3⟩, a4⟩, a5⟩ := h1
  refine ⟨fun a ha hb hr => ?_, fun a ha hb hr => ?_, fun k hk => a2 k (by omega), fun t ht => (a3 t ht).1, fun t ht hp => ?_, a4, fun q hq => ?_⟩
  · have := (a1 (a - 1) (by omega)).1
    rw [show a - 1 + 1 = a by omega, hr] at this
    simpa using this
  · have := (a1 (a - 1) (by omega)).2
    rw [show a - 1 + 1 = a by omega, hr] at this
    simpa using this
  · rcases (a3 t ht).2 with h | h
    · rw [h] at hp; cases hp
    · exact ⟨h.1.1.1, h.1.1.2, h.1.2, h.2⟩
  · have := a5 q hq
    exact ⟨this.1.1.1.1.1, this.1.1.1.1.2, this.1.1.1.2, this.1.1.2, this.1.2, this.2⟩
/-- The reference's sums over the roots. -/
def q4 (n : Nat) (D : Int) : Nat → Int
  | 0 => 0
  | t + 1 => if (decide (Nat.gcd (t + 1) n = 1) && rt4 n (t + 1)) = true then q4 n D t + rkV D (t + 1) else q4 n D t
def q3 (n : Nat) (D : Int) : Nat → Int
  | 0 => 0
  | t + 1 => if (decide (Nat.gcd (t + 1) n = 1) && rt3 n (t + 1)) = true then q3 n D t + 2 * rkV D (t + 1) else q3 n D t
theorem q4_eq {n : Nat} {D : Int} (h : DF n D) : ∀ t, t ≤ n → s4 n D t = 2 * q4 n D t
  | 0, _ => rfl
  | t + 1, ht => by
    have ih := q4_eq h t (by omega)
    unfold s4 q4
    by_cases hr : rt4 n (t + 1) = true
    · obtain ⟨g, e⟩ := h.r4 (t + 1) (by omega) ht hr
      rw [if_pos hr, if_pos (by rw [hr, decide_eq_true g]; rfl), e, ih]; omega
    · rw [if_neg hr, if_neg (by rw [Bool.not_eq_true] at hr; rw [hr, Bool.and_false]; decide), ih]
theorem q3_eq {n : Nat} {D : Int} (h : DF n D) : ∀ t, t ≤ n → s3 n D t = q3 n D t
  | 0, _ => rfl
  | t + 1, ht => by
    have ih := q3_eq h t (by omega)
    unfold s3 q3
    by_cases hr : rt3 n (t + 1) = true
    · obtain ⟨g, e⟩ := h.r3 (t + 1) (by omega) ht hr
      rw [if_pos hr, if_pos (by rw [hr, decide_eq_true g]; rfl), e, ih]
    · rw [if_neg hr, if_neg (by rw [Bool.not_eq_true] at hr; rw [hr, Bool.and_false]; decide), ih]
theorem kron_cases (a n : Int) : -1 ≤ kron a n ∧ kron a n ≤ 1 := by
  have hj : ∀ j : Nat, t8 a ^ j = 1 ∨ t8 a ^ j = -1 := fun j => by
    induction j with
    | zero => left; rw [Int.pow_zero]
    | succ j ih => rw [Int.pow_succ]; exact one_mul_cases ih (t8_cases a)
  have hjI : ∀ r, -1 ≤ jacI a r ∧ jacI a r ≤ 1 := fun r => by
    unfold jacI
    rcases jac_cases a.natAbs r with h | h | h <;> rw [h] <;> split <;> omega
  unfold kron
  split
  · split <;> omega
  · split
    · omega
    · have h1 : sg a n = 1 ∨ sg a n = -1 := by unfold sg; split <;> omega
      have h2 := one_mul_cases h1 (hj (strip n.natAbs 2 n.natAbs).1)
      have h3 := hjI (strip n.natAbs 2 n.natAbs).2
      rcases h2 with h | h <;> rw [h] <;> omega
theorem s4_bd (n : Nat) (D : Int) : ∀ t : Nat, -(2 * (t : Int)) ≤ s4 n D t ∧ s4 n D t ≤ 2 * (t : Int)
  | 0 => by unfold s4; omega
  | t + 1 => by
    have := s4_bd n D t
    have := kron_cases D ((t + 1 : Nat) : Int)
    unfold s4
    split <;> omega
theorem s3_bd (n : Nat) (D : Int) : ∀ t : Nat, -(2 * (t : Int)) ≤ s3 n D t ∧ s3 n D t ≤ 2 * (t : Int)
  | 0 => by unfold s3; omega
  | t + 1 => by
    have := s3_bd n D t
    have := kron_cases D ((t + 1 : Nat) : Int)
    unfold s3
    split <;> omega
/-- The reference's formula. -/
def rfV (n k : Nat) (D : Int) : Int :=
  (((k : Int) - 1) * psV n - 6 * (lamP n D.natAbs : Int) + f4K k * q4 n D n + (if k % 3 = 0 then 2 else if k % 3 = 2 then -2 else 0) * q3 n D n + 12 * exK k D.natAbs).tdiv 12
theorem cp_rf {n k : Nat} {D : Int} (h : LD n D) : cpV n k D = rfV n k D := by
  unfold cpV cpF rfV
  rw [q4_eq h.df n (Nat.le_refl _), q3_eq h.df n (Nat.le_refl _)]
  have e3 : f3K k = 2 * (if k % 3 = 0 then 2 else if k % 3 = 2 then -2 else 0) := by
    unfold f3K
    split
    · rfl
    · split <;> rfl
  rw [e3]
  have : ∀ x : Int, (2 * x).tdiv (2 * 12) = x.tdiv 12 := fun x => Int.mul_tdiv_mul_of_pos _ _ (by decide)
  rw [← this, show (2 * 12 : Int) = 24 by rfl]
  congr 1
  grind
theorem exK_bd (k f : Nat) : 0 ≤ exK k f ∧ exK k f ≤ 1 := by unfold exK; split <;> omega
theorem f4K_bd (k : Nat) : f4K k = 0 ∨ f4K k = 3 ∨ f4K k = -3 := by
  unfold f4K
  split
  · omega
  · split <;> omega
theorem f3K_bd (k : Nat) : f3K k = 0 ∨ f3K k = 4 ∨ f3K k = -4 := by
  unfold f3K
  split
  · omega
  · split <;> omega
theorem lamP_le {n : Nat} {D : Int} (h : LD n D) : lamP n D.natAbs ≤ 1000 := by
  have := h.df.lb (facs 2 n).length (Nat.le_refl _)
  rwa [List.take_length] at this
theorem tdiv24_bd {x : Int} (h1 : -240000 ≤ x) (h2 : x ≤ 240000) : -10000 ≤ x.tdiv 24 ∧ x.tdiv 24 ≤ 10000 := by
  have h : (x.tdiv 24).natAbs = x.natAbs / 24 := Int.natAbs_tdiv x 24
  omega
theorem cp_bd {n k : Nat} {D : Int} (h : LD n D) (k1 : 2 ≤ k) (k2 : k ≤ 24) : -10000 ≤ cpV n k D ∧ cpV n k D ≤ 10000 := by
  have a1 := psV_le h.n1 h.n2
  have a2 := lamP_le h
  have a3 := s4_bd n D n
  have a4 := s3_bd n D n
  have a5 := exK_bd k D.natAbs
  have a6 := h.n2
  have hp : 0 ≤ 2 * ((k : Int) - 1) * (psV n : Int) ∧ 2 * ((k : Int) - 1) * (psV n : Int) ≤ 46000 := by
    constructor
    · exact Int.mul_nonneg (by omega) (by omega)
    · have := Int.mul_le_mul (show 2 * ((k : Int) - 1) ≤ 46 by omega) (show (psV n : Int) ≤ 1000 by omega) (by omega) (by omega)
      omega
  unfold cpV cpF
  generalize 2 * ((k : Int) - 1) * (psV n : Int) = x at *
  rcases f4K_bd k with h4 | h4 | h4 <;> rcases f3K_bd k with h3 | h3 | h3 <;> rw [h4, h3] <;> exact tdiv24_bd (by omega) (by omega)
end Go.Proofs.Ytlagljnhbhnelaa
