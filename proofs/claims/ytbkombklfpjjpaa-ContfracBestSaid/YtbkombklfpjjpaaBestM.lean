/- Plain mathematics of convergents: best approximations. -/
import Derived.Test.YtbkombklfpjjpaaPathO
namespace Go.Proofs.Ytbkombklfpjjpaa

/-- Every pair of consecutive convergents is on the way. -/
theorem way_at {P Q : Int} : ∀ (n : Nat) (p q bp bq lp lq : Int) (C : List (Int × Int)), q < n → OnWay P Q p q bp bq lp lq → cvg bp bq lp lq (cfe p q) = some C →
    ∀ j u v, ((lp, lq) :: C)[j]? = some u → ((lp, lq) :: C)[j + 1]? = some v → ∃ p' q', OnWay P Q p' q' u.1 u.2 v.1 v.2
  | n, p, q, bp, bq, lp, lq, C, hn, h, hc, j, u, v, hu, hv => by
    by_cases hq : q = 0
    · subst hq
      rw [cfe_zero] at hc
      cases hc
      simp at hv
    · have h0 := h.hq
      have hq0 : 0 < q := by omega
      obtain ⟨h1, _, _⟩ := h.next hq0
      have m2 := Int.emod_lt_of_pos p hq0
      rw [cfe_next hq0] at hc
      by_cases hi : inE (p / q * lp + bp) = true ∧ inE (p / q * lq + bq) = true
      · rw [cvg_next hi.1 hi.2] at hc
        cases hD : cvg lp lq (p / q * lp + bp) (p / q * lq + bq) (cfe q (p % q)) with
        | none => rw [hD] at hc; cases hc
        | some D =>
          rw [hD] at hc
          cases hc
          match j, hu, hv with
          | 0, hu, hv =>
            simp at hu hv
            subst hu hv
            exact ⟨q, p % q, h1⟩
          | j + 1, hu, hv =>
            match n, hn with
            | 0, hn => omega
            | n + 1, hn =>
              exact way_at n q (p % q) lp lq _ _ D (by omega) h1 hD j u v (by simpa using hu) (by simpa using hv)
      · rw [cvg_large hi] at hc; cases hc
theorem way_cfe {P Q : Int} (h : cuspI P Q = 0) (hq : 0 < Q) {C : List (Int × Int)} (hc : cvg 0 1 1 0 (cfe P Q) = some C) (j : Nat) (u v : Int × Int) (hu : C[j]? = some u) (hv : C[j + 1]? = some v) : ∃ p q, OnWay P Q p q u.1 u.2 v.1 v.2 := by
  obtain ⟨hP, hQ, hL⟩ := cuspI_zero.1 h
  have m1 := Int.emod_nonneg P (show Q ≠ 0 by omega)
  have m2 := Int.emod_lt_of_pos P hq
  have e := Int.mul_ediv_add_emod P Q
  rw [cfe_next hq] at hc
  obtain ⟨D, rfl, hD⟩ := cvg_first hc
  have hw : OnWay P Q Q (P % Q) 1 0 (P / Q) 1 := by
    refine ⟨m1, m2, by rw [Int.mul_one]; omega, by rw [Int.mul_one, Int.mul_zero]; omega, by omega, by omega, ?_⟩
    rcases Int.lt_or_le (P / Q) 0 with k | k
    · right; right; omega
    · left; omega
  exact way_at Q.toNat.succ Q (P % Q) 1 0 (P / Q) 1 D (by omega) hw hD j u v hu hv
/-- No fraction with a smaller denominator is better than the convergent before. -/
theorem best {P Q p q bp bq lp lq : Int} (h : OnWay P Q p q bp bq lp lq) (hd : bp * lq - lp * bq = 1 ∨ bp * lq - lp * bq = -1) (r s : Int) (hs : 0 < s) (hsl : s < lq) :
    (bq * P - bp * Q).natAbs ≤ (s * P - r * Q).natAbs := by
  obtain ⟨h1, h2, rfl, rfl, h5, h6, _⟩ := h
  have e1 : bq * (p * lp + q * bp) - bp * (p * lq + q * bq) = p * -(bp * lq - lp * bq) := by
    rw [Int.mul_add, Int.mul_add, Int.mul_neg, Int.mul_sub]
    have a1 : bq * (p * lp) = p * (lp * bq) := by rw [Int.mul_left_comm, Int.mul_comm bq lp]
    have a2 : bq * (q * bp) = bp * (q * bq) := by rw [Int.mul_left_comm, Int.mul_left_comm bp q bq, Int.mul_comm bq bp]
    have a3 : bp * (p * lq) = p * (bp * lq) := Int.mul_left_comm _ _ _
    omega
  -- coordinates of (r, s) by the two convergents
  have e2 : s * (p * lp + q * bp) - r * (p * lq + q * bq) = p * (s * lp - r * lq) + q * (s * bp - r * bq) := by
    rw [Int.mul_add, Int.mul_add, Int.mul_sub, Int.mul_sub, Int.mul_left_comm s p, Int.mul_left_comm s q, Int.mul_left_comm r p, Int.mul_left_comm r q]; omega
  rw [e1, e2]
  obtain ⟨U, hU⟩ : ∃ U, U = s * lp - r * lq := ⟨_, rfl⟩
  obtain ⟨V, hV⟩ : ∃ V, V = s * bp - r * bq := ⟨_, rfl⟩
  rw [← hU, ← hV]
  -- s (bp lq - lp bq) = V lq - U bq
  have e3 : s * (bp * lq - lp * bq) = V * lq - U * bq := by
    rw [hU, hV, Int.mul_sub, Int.sub_mul, Int.sub_mul, Int.mul_assoc s bp, Int.mul_assoc s lp, Int.mul_assoc r bq, Int.mul_assoc r lq, Int.mul_comm bq lq]; omega
  have hp : 0 < p := by omega
  have key : (p * -(bp * lq - lp * bq)).natAbs = p.natAbs := by
    rcases hd with k | k <;> rw [k] <;> omega
  rw [key]
  -- U and V: U is not 0, and V * U ≤ 0 is impossible to hurt
  have hUV : (1 ≤ U ∧ 0 ≤ V) ∨ (U ≤ -1 ∧ V ≤ 0) := by
    have hpm : s = V * lq - U * bq ∨ -s = V * lq - U * bq := by
      rcases hd with k | k
      · rw [k, Int.mul_one] at e3; exact .inl e3
      · rw [k] at e3; right; omega
    rcases Int.lt_trichotomy V 0 with c | c | c
    · -- V ≤ -1
      have a1 := Int.mul_le_mul_of_nonneg_right (show V ≤ -1 by omega) h5
      rcases Int.lt_or_le U 0 with d | d
      · exact .inr ⟨by omega, by omega⟩
      · have a2 := Int.mul_nonneg d h6
        omega
    · subst c
      rw [Int.zero_mul] at hpm
      rcases Int.lt_trichotomy U 0 with d | d | d
      · exact .inr ⟨by omega, by omega⟩
      · subst d; rw [Int.zero_mul] at hpm; omega
      · exact .inl ⟨by omega, by omega⟩
    · have a1 := Int.mul_le_mul_of_nonneg_right (show 1 ≤ V by omega) h5
      rcases Int.lt_or_le 0 U with d | d
      · exact .inl ⟨by omega, by omega⟩
      · have a2 := Int.mul_nonneg (show 0 ≤ -U by omega) h6
        rw [Int.neg_mul] at a2
        omega
  rcases hUV with ⟨c1, c2⟩ | ⟨c1, c2⟩
  · have a1 := le_mul_pos (p := U) (x := p) c1 (by omega)
    have a2 := Int.mul_nonneg h1 c2
    rw [Int.mul_comm p U]; omega
  · have a1 := le_mul_pos (p := -U) (x := p) (by omega) (by omega)
    have a2 := Int.mul_nonneg h1 (show 0 ≤ -V by omega)
    rw [Int.neg_mul] at a1
    rw [Int.mul_neg] at a2
    rw [Int.mul_comm p U]; omega
end Go.Proofs.Ytbkombklfpjjpaa
