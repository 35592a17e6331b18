/- Plain mathematics of the law CuspsAtkinLehner. -/
import Derived.Test.YtfojlanjhdifoaaAtkL
import Derived.Test.YtfojlanjhdifoaaMulL
namespace Go.Proofs.Ytfojlanjhdifoaa
open Go.RowKit

/-- The numbers of an Atkin-Lehner matrix (q x, b; q m, q), with b m = q x - 1. -/
structure AW (q m x b : Int) : Prop where
  q1 : 1 ≤ q
  m1 : 1 ≤ m
  x0 : 0 ≤ x
  n2 : q * m ≤ 120
  hb : b * m = q * x - 1
  qx : 0 ≤ q * x
  qx2 : q * x ≤ 120
  q2 : q ≤ 120
  b0 : -1 ≤ b
  b2 : b ≤ 120
theorem AW.of {n q x : Int} (n1 : 1 ≤ n) (n2 : n ≤ 120) (q1 : 1 ≤ q) (hd : n % q = 0) (hl : LeastInv q (n / q) x) : ∃ m, n / q = m ∧ n = q * m ∧ AW q m x ((q * x - 1) / (n / q)) := by
  refine ⟨n / q, rfl, ?_, ?_⟩
  · have := Int.mul_ediv_add_emod n q
    omega
  have hn : n = q * (n / q) := by have := Int.mul_ediv_add_emod n q; omega
  have hm : 1 ≤ n / q := by
    rcases Int.lt_or_le 0 (n / q) with h | h
    · omega
    · have := Int.mul_le_mul_of_nonneg_left h (show 0 ≤ q by omega); omega
  have hlo := hl.lo
  have hhi := hl.hi
  have hdv := hl.dvd
  generalize n / q = m at *
  have hx : q * x ≤ q * m := Int.mul_le_mul_of_nonneg_left (by omega) (by omega)
  have hx0 : 0 ≤ q * x := Int.mul_nonneg (by omega) hlo
  have hqm : q * 1 ≤ q * m := Int.mul_le_mul_of_nonneg_left hm (by omega)
  have hbm : (q * x - 1) / m * m = q * x - 1 := Int.ediv_mul_cancel hdv
  refine ⟨q1, hm, hlo, by omega, hbm, hx0, by omega, by omega, ?_, ?_⟩
  · generalize (q * x - 1) / m = b at *
    rcases Int.lt_or_le b (-1) with h | h
    · have := Int.mul_le_mul_of_nonneg_right (show b ≤ -2 by omega) (show 0 ≤ m by omega); omega
    · exact h
  · generalize (q * x - 1) / m = b at *
    rcases Int.lt_or_le 120 b with h | h
    · have := Int.mul_le_mul_of_nonneg_right (show 121 ≤ b by omega) (show 0 ≤ m by omega); omega
    · exact h
section
variable {q m x b : Int} (h : AW q m x b)
include h
theorem AW.det : q * x * q - b * (q * m) = q := by
  have := h.hb
  have e : b * (q * m) = q * (b * m) := by ac_rfl
  rw [e, this, Int.mul_sub]
  have e2 : q * x * q = q * (q * x) := by ac_rfl
  omega
omit h in
theorem aw_sq : q ∣ q * x * (q * x) + b * (q * m) ∧ q ∣ q * x * b + b * q ∧ q * (q * m) ∣ q * m * (q * x) + q * (q * m) ∧ q ∣ q * m * b + q * q := by
  refine ⟨Int.dvd_add ⟨x * (q * x), by ac_rfl⟩ ⟨b * m, by ac_rfl⟩, Int.dvd_add ⟨x * b, by ac_rfl⟩ ⟨b, by ac_rfl⟩, Int.dvd_add ⟨x, by ac_rfl⟩ ⟨1, by rw [Int.mul_one]⟩, Int.dvd_add ⟨m * b, by ac_rfl⟩ ⟨q, rfl⟩⟩
omit h in
theorem aw_conj (a B c d : Int) (hc : q * m ∣ c) :
    q ∣ (q * x * a + b * c) * q + (q * x * B + b * d) * (-(q * m)) ∧ q ∣ (q * x * a + b * c) * (-b) + (q * x * B + b * d) * (q * x) ∧
    q * (q * m) ∣ (q * m * a + q * c) * q + (q * m * B + q * d) * (-(q * m)) ∧ q ∣ (q * m * a + q * c) * (-b) + (q * m * B + q * d) * (q * x) := by
  obtain ⟨t, rfl⟩ := hc
  refine ⟨Int.dvd_add ⟨_, Int.mul_comm _ _⟩ ?_, Int.dvd_add ?_ ?_, Int.dvd_add ?_ ?_, Int.dvd_add ?_ ?_⟩
  · rw [Int.mul_neg]; exact Int.dvd_neg.2 ⟨(q * x * B + b * d) * m, by ac_rfl⟩
  · exact Int.dvd_mul_of_dvd_left (Int.dvd_add ⟨x * a, by ac_rfl⟩ ⟨b * (m * t), by ac_rfl⟩)
  · exact ⟨(q * x * B + b * d) * x, by ac_rfl⟩
  · rw [Int.add_mul]; exact Int.dvd_add ⟨a, by ac_rfl⟩ ⟨q * t, by ac_rfl⟩
  · rw [Int.mul_neg]; refine Int.dvd_neg.2 ?_
    rw [Int.add_mul]; exact Int.dvd_add ⟨m * B, by ac_rfl⟩ ⟨d, by ac_rfl⟩
  · exact Int.dvd_mul_of_dvd_left (Int.dvd_add ⟨m * a, by ac_rfl⟩ ⟨q * m * t, rfl⟩)
  · exact ⟨(q * m * B + q * d) * x, by ac_rfl⟩
theorem AW.fit : fitB (q * x) b (q * m) q = true ∧ fitB (q * x * (q * x) + b * (q * m)) (q * x * b + b * q) (q * m * (q * x) + q * (q * m)) (q * m * b + q * q) = true := by
  have hq := h.q1
  have hq2 := h.q2
  have h1 := h.qx
  have h2 := h.qx2
  have h3 := h.b0
  have h4 := h.b2
  have h5 := h.n2
  have h6 : 0 ≤ q * m := Int.mul_nonneg (by omega) (by have := h.m1; omega)
  generalize q * x = X at *
  generalize q * m = N at *
  have B := fun (u v : Int) (a1 : -1 ≤ u) (a2 : u ≤ 120) (b1 : -1 ≤ v) (b2 : v ≤ 120) => (show -14641 ≤ u * v ∧ u * v ≤ 14641 from by
    have := Int.natAbs_mul u v
    have h1 : u.natAbs ≤ 121 := by omega
    have h2 : v.natAbs ≤ 121 := by omega
    have h3 := Nat.mul_le_mul h1 h2
    omega)
  refine ⟨fitB_iff.2 (by omega), fitB_iff.2 ?_⟩
  have c1 := B X X (by omega) (by omega) (by omega) (by omega)
  have c2 := B b N (by omega) (by omega) (by omega) (by omega)
  have c3 := B X b (by omega) (by omega) (by omega) (by omega)
  have c4 := B b q (by omega) (by omega) (by omega) (by omega)
  have c5 := B N X (by omega) (by omega) (by omega) (by omega)
  have c6 := B q N (by omega) (by omega) (by omega) (by omega)
  have c7 := B N b (by omega) (by omega) (by omega) (by omega)
  have c8 := B q q (by omega) (by omega) (by omega) (by omega)
  omega
end
/-- All that the law wants, the matrix as (X, B; n, q). -/
structure AF (n q X B : Int) : Prop where
  n1 : 1 ≤ n
  n2 : n ≤ 120
  q1 : 1 ≤ q
  q2 : q ≤ 120
  x0 : 0 ≤ X
  x2 : X ≤ 120
  b0 : -1 ≤ B
  b2 : B ≤ 120
  det : X * q - B * n = q
  f1 : fitB X B n q = true
  f2 : fitB (X * X + B * n) (X * B + B * q) (n * X + q * n) (n * B + q * q) = true
  s1 : (X * X + B * n).tmod q = 0
  s2 : (X * B + B * q).tmod q = 0
  s3 : (n * X + q * n).tmod (q * n) = 0
  s4 : (n * B + q * q).tmod q = 0
  cj : ∀ a b c d : Int, n ∣ c → ((X * a + B * c) * q + (X * b + B * d) * (-n)).tmod q = 0 ∧ ((X * a + B * c) * (-B) + (X * b + B * d) * X).tmod q = 0 ∧ ((n * a + q * c) * q + (n * b + q * d) * (-n)).tmod (q * n) = 0 ∧ ((n * a + q * c) * (-B) + (n * b + q * d) * X).tmod q = 0
theorem tmod_zero {a b : Int} (h : b ∣ a) : a.tmod b = 0 := Int.tmod_eq_zero_of_dvd h
theorem AF.of {n q x : Int} (n1 : 1 ≤ n) (n2 : n ≤ 120) (q1 : 1 ≤ q) (hd : n % q = 0) (hl : LeastInv q (n / q) x) : AF n q (q * x) ((q * x - 1) / (n / q)) := by
  obtain ⟨m, _, h2, h⟩ := AW.of n1 n2 q1 hd hl
  generalize (q * x - 1) / (n / q) = B at *
  subst h2
  obtain ⟨s1, s2, s3, s4⟩ := aw_sq (q := q) (m := m) (x := x) (b := B)
  exact ⟨n1, n2, q1, h.q2, h.qx, h.qx2, h.b0, h.b2, h.det, h.fit.1, h.fit.2, tmod_zero s1, tmod_zero s2, tmod_zero s3, tmod_zero s4, fun a b c d hc => by
    obtain ⟨t1, t2, t3, t4⟩ := aw_conj (q := q) (m := m) (x := x) (b := B) a b c d hc
    exact ⟨tmod_zero t1, tmod_zero t2, tmod_zero t3, tmod_zero t4⟩⟩
theorem mulE_cases (x y : M) : (∃ k, ¬ k = 0 ∧ mulE x y = (.zero, k)) ∨ (x.ok = true ∧ y.ok = true ∧ (x.mul y).ok = true ∧ mulE x y = (x.mul y, 0)) := by
  cases hx : x.ok with
  | false => exact .inl ⟨2, by decide, mulE_out (.inl hx)⟩
  | true =>
    cases hy : y.ok with
    | false => exact .inl ⟨2, by decide, mulE_out (.inr hy)⟩
    | true =>
      cases hz : (x.mul y).ok with
      | false => exact .inl ⟨7, by decide, mulE_large hx hy hz⟩
      | true => exact .inr ⟨rfl, rfl, rfl, mulE_ok hx hy hz⟩
end Go.Proofs.Ytfojlanjhdifoaa
