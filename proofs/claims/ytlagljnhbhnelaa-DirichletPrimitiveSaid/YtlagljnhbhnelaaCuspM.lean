/- Plain mathematics of cusps: fractions in lowest terms. -/
import Derived.Test.YtlagljnhbhnelaaMatM
namespace Go.Proofs.Ytlagljnhbhnelaa

/-- p/q in lowest terms. -/
def low (p q : Int) : Int × Int :=
  if q < 0 ∨ (q = 0 ∧ p < 0) then (-(p.tdiv (Int.gcd p q)), -(q.tdiv (Int.gcd p q))) else (p.tdiv (Int.gcd p q), q.tdiv (Int.gcd p q))
/-- A pair in lowest terms, as the document wants it. -/
structure IsLow (u v : Int) : Prop where
  cop : Int.gcd u v = 1
  pos : 0 ≤ v
  inf : v = 0 → u = 1
theorem IsLow.ne {u v : Int} (h : IsLow u v) : ¬ (u = 0 ∧ v = 0) := fun ⟨h1, h2⟩ => by have := h.inf h2; omega
theorem gcd_pos_of {p q : Int} (h : ¬ (p = 0 ∧ q = 0)) : 0 < Int.gcd p q := by
  rcases Nat.eq_zero_or_pos (Int.gcd p q) with k | k
  · exact absurd (Int.gcd_eq_zero_iff.1 k) h
  · exact k
theorem low_spec {p q u v : Int} (h : ¬ (p = 0 ∧ q = 0)) (hl : low p q = (u, v)) : ∃ s : Int, s ≠ 0 ∧ s.natAbs = Int.gcd p q ∧ p = s * u ∧ q = s * v ∧ IsLow u v := by
  unfold low at hl
  have hg := gcd_pos_of h
  have e1 : p = (Int.gcd p q : Int) * p.tdiv (Int.gcd p q) := (Int.mul_tdiv_cancel' (Int.gcd_dvd_left p q)).symm
  have e2 : q = (Int.gcd p q : Int) * q.tdiv (Int.gcd p q) := (Int.mul_tdiv_cancel' (Int.gcd_dvd_right p q)).symm
  have e3 : Int.gcd (p.tdiv (Int.gcd p q)) (q.tdiv (Int.gcd p q)) = 1 := by
    have e4 : Int.gcd p q = Int.gcd p q * Int.gcd (p.tdiv (Int.gcd p q)) (q.tdiv (Int.gcd p q)) := by
      have k := Int.gcd_mul_left (Int.gcd p q) (p.tdiv (Int.gcd p q)) (q.tdiv (Int.gcd p q))
      rw [← e1, ← e2, Int.natAbs_natCast] at k
      exact k
    exact Nat.eq_of_mul_eq_mul_left hg (by rw [← e4, Nat.mul_one])
  generalize Int.gcd p q = g at *
  generalize p.tdiv g = x at *
  generalize q.tdiv g = y at *
  have hg0 : (0 : Int) < (g : Int) := by omega
  have hq0 : q < 0 ↔ y < 0 := by
    rw [e2]
    constructor
    · intro k; exact Int.not_le.1 fun k2 => Int.not_le.2 k (Int.mul_nonneg (by omega) k2)
    · intro k; exact Int.mul_neg_of_pos_of_neg hg0 k
  have hq1 : q = 0 ↔ y = 0 := by
    rw [e2]
    constructor
    · intro k; rcases Int.mul_eq_zero.1 k with k | k <;> omega
    · intro k; rw [k, Int.mul_zero]
  have hp0 : p < 0 ↔ x < 0 := by
    rw [e1]
    constructor
    · intro k; exact Int.not_le.1 fun k2 => Int.not_le.2 k (Int.mul_nonneg (by omega) k2)
    · intro k; exact Int.mul_neg_of_pos_of_neg hg0 k
  have hx : y = 0 → x.natAbs = 1 := fun k => by rw [k, Int.gcd_zero_right] at e3; exact e3
  split at hl
  · rename_i c
    cases hl
    refine ⟨-(g : Int), by omega, by omega, by rw [Int.neg_mul_neg]; exact e1, by rw [Int.neg_mul_neg]; exact e2, ?_, ?_, ?_⟩
    · rw [Int.gcd_neg, Int.neg_gcd]; exact e3
    · rcases c with c | ⟨c, _⟩
      · have := hq0.1 c; omega
      · have := hq1.1 c; omega
    · intro k
      have k2 : y = 0 := by omega
      have k3 := hx k2
      rcases c with c | ⟨_, c⟩
      · have := hq0.1 c; omega
      · have := hp0.1 c; omega
  · rename_i c
    cases hl
    refine ⟨(g : Int), by omega, by omega, e1, e2, e3, ?_, ?_⟩
    · rcases Int.lt_or_le v 0 with k | k
      · exact absurd (.inl (hq0.2 k)) c
      · exact k
    · intro k
      have k3 := hx k
      rcases Int.lt_or_le u 0 with k2 | k2
      · exact absurd (.inr ⟨hq1.2 k, hp0.2 k2⟩) c
      · omega
theorem tdiv_mul_self {s u : Int} (h : s ≠ 0) : (s * u).tdiv s = u := Int.mul_tdiv_cancel_left u h
/-- The lowest terms are the only ones. -/
theorem low_of {p q s u v : Int} (hs : s ≠ 0) (hp : p = s * u) (hq : q = s * v) (h : IsLow u v) : low p q = (u, v) := by
  have hne : ¬ (p = 0 ∧ q = 0) := by
    rintro ⟨k1, k2⟩
    rw [hp] at k1; rw [hq] at k2
    exact h.ne ⟨(Int.mul_eq_zero.1 k1).resolve_left hs, (Int.mul_eq_zero.1 k2).resolve_left hs⟩
  obtain ⟨u', v', e⟩ : ∃ u' v', low p q = (u', v') := ⟨_, _, rfl⟩
  obtain ⟨t, ht, htg, e1, e2, h'⟩ := low_spec hne e
  have hsg : s.natAbs = Int.gcd p q := by rw [hp, hq, Int.gcd_mul_left, h.cop, Nat.mul_one]
  rw [e]
  have hst : s = t ∨ s = -t := by omega
  rcases hst with k | k
  · subst k
    rw [hp] at e1; rw [hq] at e2
    rw [Int.eq_of_mul_eq_mul_left hs e1, Int.eq_of_mul_eq_mul_left hs e2]
  · subst k
    rw [hp, Int.neg_mul, ← Int.mul_neg] at e1
    rw [hq, Int.neg_mul, ← Int.mul_neg] at e2
    have f1 := Int.eq_of_mul_eq_mul_left ht e1
    have f2 := Int.eq_of_mul_eq_mul_left ht e2
    have g1 := h.pos
    have g2 := h'.pos
    have g3 := h.inf
    have g4 := h'.inf
    have : v = 0 := by omega
    have := g3 this
    have : v' = 0 := by omega
    have := g4 this
    omega
theorem low_scale {s p q : Int} (hs : s ≠ 0) (h : ¬ (p = 0 ∧ q = 0)) : low (s * p) (s * q) = low p q := by
  obtain ⟨u, v, e⟩ : ∃ u v, low p q = (u, v) := ⟨_, _, rfl⟩
  obtain ⟨t, ht, _, e1, e2, h'⟩ := low_spec h e
  rw [e]
  refine low_of (s := s * t) (fun k => ?_) ?_ ?_ h'
  · rcases Int.mul_eq_zero.1 k with k | k
    · exact hs k
    · exact ht k
  · rw [e1, Int.mul_assoc]
  · rw [e2, Int.mul_assoc]
theorem low_self {u v : Int} (h : IsLow u v) : low u v = (u, v) := low_of (s := 1) (by decide) (by rw [Int.one_mul]) (by rw [Int.one_mul]) h
theorem low_le {p q u v : Int} (h : ¬ (p = 0 ∧ q = 0)) (hl : low p q = (u, v)) : u.natAbs ≤ p.natAbs ∧ v.natAbs ≤ q.natAbs ∧ u * q = v * p := by
  obtain ⟨s, hs, _, rfl, rfl, _⟩ := low_spec h hl
  have hs1 : 1 ≤ s.natAbs := by omega
  refine ⟨?_, ?_, ?_⟩
  · rw [Int.natAbs_mul]; exact Nat.le_mul_of_pos_left _ hs1
  · rw [Int.natAbs_mul]; exact Nat.le_mul_of_pos_left _ hs1
  · rw [Int.mul_left_comm, Int.mul_left_comm v s u, Int.mul_comm u v]

/-- The answer of CheckCusp. -/
def cuspI (p q : Int) : Int := if inE p = false ∨ q < 0 ∨ 1073741824 < q then 2 else if ¬ Int.gcd p q = 1 ∨ (q = 0 ∧ ¬ p = 1) then 3 else 0
theorem cuspI_zero {p q : Int} : cuspI p q = 0 ↔ inE p = true ∧ q ≤ 1073741824 ∧ IsLow p q := by
  unfold cuspI
  by_cases h : inE p = false ∨ q < 0 ∨ 1073741824 < q
  · rw [if_pos h]
    constructor
    · intro k; omega
    · rintro ⟨k1, k2, k3⟩
      have := k3.pos
      rcases h with h | h | h
      · rw [h] at k1; cases k1
      · omega
      · omega
  · rw [if_neg h]
    have h1 : inE p = true := by cases e : inE p with
      | false => exact absurd (.inl e) h
      | true => rfl
    by_cases k : ¬ Int.gcd p q = 1 ∨ (q = 0 ∧ ¬ p = 1)
    · rw [if_pos k]
      constructor
      · intro k; omega
      · rintro ⟨_, _, k3⟩
        rcases k with k | ⟨k, k'⟩
        · exact absurd k3.cop k
        · exact absurd (k3.inf k) k'
    · rw [if_neg k]
      refine ⟨fun _ => ⟨h1, by omega, ⟨?_, by omega, ?_⟩⟩, fun _ => rfl⟩
      · exact Classical.byContradiction fun c => k (.inl c)
      · intro c; exact Classical.byContradiction fun c' => k (.inr ⟨c, c'⟩)
/-- The cases of CheckCusp. -/
theorem cusp_cases (p q : Int) :
    (inE p = false ∧ cuspI p q = 2) ∨
    (inE p = true ∧ inE q = false ∧ q < 0 ∧ cuspI p q = 2) ∨
    (inE p = true ∧ inE q = true ∧ q < 0 ∧ cuspI p q = 2) ∨
    (inE p = true ∧ inE q = false ∧ 0 ≤ q ∧ 1073741824 < q ∧ cuspI p q = 2) ∨
    (inE p = true ∧ inE q = true ∧ 0 ≤ q ∧ q ≤ 1073741824 ∧ ¬ Int.gcd p q = 1 ∧ cuspI p q = 3) ∨
    (inE p = true ∧ inE q = true ∧ 0 ≤ q ∧ q ≤ 1073741824 ∧ Int.gcd p q = 1 ∧ q = 0 ∧ ¬ p = 1 ∧ cuspI p q = 3) ∨
    (inE p = true ∧ inE q = true ∧ 0 ≤ q ∧ q ≤ 1073741824 ∧ Int.gcd p q = 1 ∧ q = 0 ∧ p = 1 ∧ cuspI p q = 0) ∨
    (inE p = true ∧ inE q = true ∧ 0 ≤ q ∧ q ≤ 1073741824 ∧ Int.gcd p q = 1 ∧ ¬ q = 0 ∧ cuspI p q = 0) := by
  have two : (inE p = false ∨ q < 0 ∨ 1073741824 < q) → cuspI p q = 2 := fun h => if_pos h
  cases hp : inE p with
  | false => exact .inl ⟨rfl, two (.inl hp)⟩
  | true =>
    right
    rcases Int.lt_or_le q 0 with h | h
    · cases hq : inE q with
      | false => exact .inl ⟨rfl, rfl, h, two (.inr (.inl h))⟩
      | true => exact .inr (.inl ⟨rfl, rfl, h, two (.inr (.inl h))⟩)
    · right; right
      rcases Int.lt_or_le 1073741824 q with k | k
      · exact .inl ⟨rfl, inE_no (.inr k), h, k, two (.inr (.inr k))⟩
      · right
        have hq := inE_yes (n := q) (by omega) k
        have out : ¬ (inE p = false ∨ q < 0 ∨ 1073741824 < q) := by
          rintro (c | c | c)
          · rw [hp] at c; cases c
          · omega
          · omega
        by_cases hg : Int.gcd p q = 1
        · right
          by_cases h0 : q = 0
          · by_cases h1 : p = 1
            · right; left
              exact ⟨rfl, hq, h, k, hg, h0, h1, by unfold cuspI; rw [if_neg out, if_neg (by rintro (c | ⟨_, c⟩); exact c hg; exact c h1)]⟩
            · left
              exact ⟨rfl, hq, h, k, hg, h0, h1, by unfold cuspI; rw [if_neg out, if_pos (.inr ⟨h0, h1⟩)]⟩
          · right; right
            exact ⟨rfl, hq, h, k, hg, h0, by unfold cuspI; rw [if_neg out, if_neg (by rintro (c | ⟨c, _⟩); exact c hg; exact h0 c)]⟩
        · left
          exact ⟨rfl, hq, h, k, hg, by unfold cuspI; rw [if_neg out, if_pos (.inl hg)]⟩
end Go.Proofs.Ytlagljnhbhnelaa
