/- The list of divisors: ascending, and each divisor is there. -/
import Derived.Test.YtoeailhcobbhjaaRefDiv
import Derived.Test.YtoeailhcobbhjaaOrdLoop
namespace Go.Proofs.Ytoeailhcobbhjaa
open Go.RowKit

theorem mem_low {n x : Nat} : ∀ d, x ∈ lowL n d ↔ 1 ≤ x ∧ x ≤ d ∧ n % x = 0 := by
  intro d
  induction d with
  | zero => simp [lowL]; omega
  | succ d ih =>
    simp only [lowL, List.mem_append, ih]
    constructor
    · rintro (⟨h1, h2, h3⟩ | h)
      · exact ⟨h1, by omega, h3⟩
      · split at h
        · rename_i h2
          simp at h
          subst h
          exact ⟨by omega, by omega, h2⟩
        · cases h
    · rintro ⟨h1, h2, h3⟩
      by_cases he : x = d + 1
      · subst he
        right
        rw [if_pos h3]
        simp
      · exact .inl ⟨h1, by omega, h3⟩
theorem mem_hi {n x : Nat} : ∀ d, x ∈ hiL n d ↔ ∃ e, 1 ≤ e ∧ e ≤ d ∧ n % e = 0 ∧ e * e < n ∧ x = n / e := by
  intro d
  induction d with
  | zero => simp [hiL]; omega
  | succ d ih =>
    simp only [hiL, List.mem_append, ih]
    constructor
    · rintro (⟨e, h1, h2, h3⟩ | h)
      · exact ⟨e, h1, by omega, h3⟩
      · split at h
        · rename_i h2
          simp at h
          exact ⟨d + 1, by omega, by omega, h2.1, h2.2, h⟩
        · cases h
    · rintro ⟨e, h1, h2, h3, h4, h5⟩
      by_cases he : e = d + 1
      · subst he
        right
        rw [if_pos ⟨h3, h4⟩]
        simp [h5]
      · exact .inl ⟨e, h1, by omega, h3, h4, h5⟩
theorem low_asc (n : Nat) : ∀ d, (lowL n d).Pairwise (· < ·) := by
  intro d
  induction d with
  | zero => simp [lowL]
  | succ d ih =>
    simp only [lowL]
    rw [List.pairwise_append]
    refine ⟨ih, by split <;> simp, fun x hx y hy => ?_⟩
    have := ((mem_low d).1 hx).2.1
    split at hy
    · simp at hy; omega
    · cases hy
theorem div_lt {n e f : Nat} (he : 1 ≤ e) (h : e < f) (h1 : n % e = 0) (h2 : n % f = 0) (hn : 1 ≤ n) : n / f < n / e := by
  obtain ⟨a, ha⟩ := Nat.dvd_of_mod_eq_zero h1
  obtain ⟨b, hb⟩ := Nat.dvd_of_mod_eq_zero h2
  have e1 : n / e = a := by rw [ha, Nat.mul_div_cancel_left _ (by omega)]
  have e2 : n / f = b := by rw [hb, Nat.mul_div_cancel_left _ (by omega)]
  rw [e1, e2]
  rcases Nat.lt_or_ge b a with h | h
  · exact h
  · have hb0 : 1 ≤ b := by
      rcases Nat.eq_zero_or_pos b with h0 | h0
      · rw [h0] at hb; omega
      · exact h0
    have h3 : e * a ≤ e * b := Nat.mul_le_mul_left _ h
    have h4 : e * b < f * b := Nat.mul_lt_mul_of_pos_right (by omega) (by omega)
    omega
theorem hi_desc {n : Nat} (hn : 1 ≤ n) : ∀ d, (hiL n d).Pairwise (fun x y => y < x) := by
  intro d
  induction d with
  | zero => simp [hiL]
  | succ d ih =>
    simp only [hiL]
    rw [List.pairwise_append]
    refine ⟨ih, by split <;> simp, fun x hx y hy => ?_⟩
    obtain ⟨e, h1, h2, h3, h4, rfl⟩ := (mem_hi d).1 hx
    split at hy
    · rename_i h
      simp at hy
      rw [hy]
      exact div_lt h1 (by omega) h3 h.1 hn
    · cases hy
theorem dvs_asc {n D : Nat} (hn : 1 ≤ n) (h : D * D ≤ n) : (dvs n D).Pairwise (· < ·) := by
  unfold dvs
  rw [List.pairwise_append]
  refine ⟨low_asc n D, List.pairwise_reverse.2 (hi_desc hn D), fun x hx y hy => ?_⟩
  have hx := ((mem_low D).1 hx).2.1
  obtain ⟨e, h1, h2, h3, h4, rfl⟩ := (mem_hi D).1 (List.mem_reverse.1 hy)
  obtain ⟨a, ha⟩ := Nat.dvd_of_mod_eq_zero h3
  have e1 : n / e = a := by rw [ha, Nat.mul_div_cancel_left _ (by omega)]
  rw [e1]
  rcases Nat.lt_or_ge D a with hl | hl
  · omega
  · exfalso
    have h5 : e < a := by
      rcases Nat.lt_or_ge e a with h | h
      · exact h
      · have : e * a ≤ e * e := Nat.mul_le_mul_left _ h
        omega
    have h6 : e * a < a * a := Nat.mul_lt_mul_of_pos_right h5 (by omega)
    have h7 : a * a ≤ D * D := Nat.mul_le_mul hl hl
    omega
theorem mem_dvs {n D x : Nat} (hn : 1 ≤ n) (h : n < (D + 1) * (D + 1)) (hx : x ∣ n) : x ∈ dvs n D := by
  unfold dvs
  rw [List.mem_append, List.mem_reverse]
  obtain ⟨e, he⟩ := hx
  have hx0 : 1 ≤ x := by
    rcases Nat.eq_zero_or_pos x with h0 | h0
    · rw [h0] at he; omega
    · exact h0
  rcases Nat.lt_or_ge D x with hl | hl
  · right
    have h1 : e ≤ D := by
      rcases Nat.lt_or_ge D e with h2 | h2
      · have : (D + 1) * (D + 1) ≤ x * e := Nat.mul_le_mul hl h2
        omega
      · exact h2
    have h0 : 1 ≤ e := by
      rcases Nat.eq_zero_or_pos e with h0 | h0
      · rw [h0] at he; omega
      · exact h0
    refine (mem_hi D).2 ⟨e, h0, h1, ?_, ?_, ?_⟩
    · rw [he, Nat.mul_mod_left]
    · have : e * e < x * e := Nat.mul_lt_mul_of_pos_right (by omega) (by omega)
      omega
    · rw [he, Nat.mul_div_cancel _ (by omega)]
  · exact .inl ((mem_low D).2 ⟨hx0, hl, by rw [he, Nat.mul_mod_right]⟩)
theorem dvs_dvd {n D x : Nat} (hx : x ∈ dvs n D) : x ∣ n := by
  unfold dvs at hx
  rw [List.mem_append, List.mem_reverse] at hx
  rcases hx with h | h
  · exact Nat.dvd_of_mod_eq_zero ((mem_low D).1 h).2.2
  · obtain ⟨e, _, _, h3, _, rfl⟩ := (mem_hi D).1 h
    exact Nat.div_dvd_of_dvd (Nat.dvd_of_mod_eq_zero h3)
theorem dvs_len (n D : Nat) : (dvs n D).length ≤ 2 * D := by
  have := lowL_len n D
  unfold dvs
  simp
  omega
/-- A power is 1 modulo m. -/
theorem pow_one_iff {a m : Int} {k : Nat} : a ^ k % m = 1 % m ↔ m ∣ a ^ k - 1 := by
  rw [Int.emod_eq_emod_iff_emod_sub_eq_zero]
  exact ⟨Int.dvd_of_emod_eq_zero, Int.emod_eq_zero_of_dvd⟩
end Go.Proofs.Ytoeailhcobbhjaa
