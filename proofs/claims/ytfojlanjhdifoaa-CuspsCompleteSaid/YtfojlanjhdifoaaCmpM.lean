/- Plain mathematics: a cusp is equivalent to exactly one cusp of the list, and to its images. -/
import Derived.Test.YtfojlanjhdifoaaWidM
import Derived.Test.YtfojlanjhdifoaaEqM
namespace Go.Proofs.Ytfojlanjhdifoaa
open Go.RowKit
set_option linter.unusedVariables false

theorem bez_nat (a b : Nat) : ∃ x y : Int, (Nat.gcd a b : Int) = a * x + b * y := by
  induction a, b using Nat.gcd.induction with
  | H0 b => exact ⟨0, 1, by simp⟩
  | H1 a b ha ih =>
    obtain ⟨x, y, h⟩ := ih
    refine ⟨y - (b / a : Nat) * x, x, ?_⟩
    rw [Nat.gcd_rec, h]
    have e : (b : Int) = a * (b / a : Nat) + (b % a : Nat) := by
      rw [← Int.natCast_mul, ← Int.natCast_add, Nat.div_add_mod]
    generalize ((b / a : Nat) : Int) = q at *
    generalize ((b % a : Nat) : Int) = r at *
    grind
theorem bez (a b : Int) : ∃ x y : Int, (Int.gcd a b : Int) = a * x + b * y := by
  obtain ⟨x, y, h⟩ := bez_nat a.natAbs b.natAbs
  have h2 : (Int.gcd a b : Int) = (a.natAbs : Int) * x + (b.natAbs : Int) * y := h
  rw [h2]
  rcases Int.natAbs_eq a with ha | ha <;> rcases Int.natAbs_eq b with hb | hb
  · exact ⟨x, y, by rw [← ha, ← hb]⟩
  · exact ⟨x, -y, by rw [← ha]; grind⟩
  · exact ⟨-x, y, by rw [← hb]; grind⟩
  · exact ⟨-x, -y, by grind⟩
/-- If e divides a d and d is a unit modulo e, e divides a. -/
theorem dvd_of_unit {e a d r : Int} (h : e ∣ a * d) (hd : e ∣ d * r - 1) : e ∣ a := by
  obtain ⟨x, hx⟩ := h
  obtain ⟨y, hy⟩ := hd
  refine ⟨x * r - a * y, ?_⟩
  have e1 : d * r = e * y + 1 := by omega
  have e2 : a * d * r = a * (d * r) := Int.mul_assoc _ _ _
  rw [hx, e1] at e2
  clear hx hy e1
  grind
/-- The condition under which p/q and p'/t are equivalent, t a divisor of n. -/
theorem cond_to {n p q b d p' t b' d' k : Int} (n1 : 1 ≤ n) (t1 : 1 ≤ t) (ht : t ∣ n) (hx : p * d - b * q = 1) (hy : p' * d' - b' * t = 1) (h : n ∣ t * d - t * k * q - d' * q) :
    t = Int.gcd q n ∧ ∀ r m, q = t * r → n = t * m → (Int.gcd t m : Int) ∣ p' - p * r := by
  have htq : t ∣ q := by
    refine dvd_of_unit (d := d') (r := p') ?_ ⟨b', by rw [Int.mul_comm d' p']; rw [Int.mul_comm t b']; omega⟩
    obtain ⟨x, hx'⟩ := h
    obtain ⟨y, hy'⟩ := ht
    exact ⟨d - k * q - y * x, by rw [hy'] at hx'; clear hx hy; grind⟩
  have he1 : ((Int.gcd q n : Nat) : Int) ∣ t := by
    have g1 : ((Int.gcd q n : Nat) : Int) ∣ q := Int.gcd_dvd_left _ _
    have g2 : ((Int.gcd q n : Nat) : Int) ∣ n := Int.gcd_dvd_right _ _
    refine dvd_of_unit (d := d) (r := p) ?_ ?_
    · obtain ⟨x, hx'⟩ := Int.dvd_trans g2 h
      obtain ⟨y, hy'⟩ := g1
      refine ⟨x + t * k * y + d' * y, ?_⟩
      generalize ((Int.gcd q n : Nat) : Int) = e at *
      rw [hy'] at hx'
      clear hx hy hy'
      grind
    · obtain ⟨y, hy'⟩ := g1
      refine ⟨b * y, ?_⟩
      have : b * q = ((Int.gcd q n : Nat) : Int) * (b * y) := by
        conv => lhs; rw [hy']
        generalize ((Int.gcd q n : Nat) : Int) = e
        clear hx hy hy'
        grind
      rw [Int.mul_comm d p]; omega
  have he2 : t ∣ ((Int.gcd q n : Nat) : Int) := by
    have := Int.dvd_coe_gcd htq ht
    exact this
  have hpos : 0 < Int.gcd q n := Int.gcd_pos_of_ne_zero_right _ (by omega)
  have hte : t = Int.gcd q n := by
    have a1 := Int.le_of_dvd (by omega) he1
    have a2 := Int.le_of_dvd (by omega) he2
    omega
  refine ⟨hte, fun r m hr hm => ?_⟩
  obtain ⟨x, hx'⟩ := h
  have hg1 : ((Int.gcd t m : Nat) : Int) ∣ t := Int.gcd_dvd_left _ _
  have hg2 : ((Int.gcd t m : Nat) : Int) ∣ m := Int.gcd_dvd_right _ _
  -- m x = d - k t r - d' r
  have e1 : d - k * (t * r) - d' * r = m * x := by
    have : t * (d - k * (t * r) - d' * r - m * x) = 0 := by
      rw [hr, hm] at hx'
      clear hx hy hr hm hg1 hg2 he1 he2 hte htq hpos
      grind
    rcases Int.mul_eq_zero.1 this with h | h
    · omega
    · omega
  obtain ⟨u, hu⟩ := hg1
  obtain ⟨v, hv⟩ := hg2
  generalize ((Int.gcd t m : Nat) : Int) = g at *
  -- g | d - d' r ; p d = 1 + b q, p' d' = 1 + b' t
  refine ⟨p * p' * (v * x + k * u * r) + p * r * b' * u - p' * b * u * r, ?_⟩
  have f1 : d = k * (t * r) + d' * r + m * x := by omega
  have f2 : p * d = 1 + b * q := by omega
  have f3 : p' * d' = 1 + b' * t := by omega
  have f4 : p' * (p * d) = p * (p' * d') * r + p * p' * (k * (t * r) + m * x) := by rw [f1]; clear f1 f2 f3 e1 hu hv hx' hr hm hte hx hy; grind
  rw [f2, f3] at f4
  rw [hr] at f4
  have f5 : p' - p * r = p * r * (b' * t) - p' * (b * (t * r)) + p * p' * (k * (t * r) + m * x) := by clear f1 f2 f3 e1 hu hv hx' hr hm hte hx hy; grind
  rw [f5, hv]
  conv => lhs; rw [hu]
  clear f1 f2 f3 f4 f5 e1 hu hv hx' hr hm hte hx hy
  grind
theorem cond_from {n p q b d p' t b' d' r m : Int} (hx : p * d - b * q = 1) (hy : p' * d' - b' * t = 1) (hr : q = t * r) (hm : n = t * m) (hrm : Int.gcd r m = 1) (h : (Int.gcd t m : Int) ∣ p' - p * r) :
    ∃ k, n ∣ t * d - t * k * q - d' * q := by
  obtain ⟨x, y, e⟩ := bez t m
  obtain ⟨x', y', e'⟩ := bez r m
  rw [hrm] at e'
  have hg1 : ((Int.gcd t m : Nat) : Int) ∣ t := Int.gcd_dvd_left _ _
  obtain ⟨u, hu⟩ := hg1
  obtain ⟨z, hz⟩ := h
  generalize ((Int.gcd t m : Nat) : Int) = g at *
  -- d - d' r = g w
  have f2 : p * d = 1 + b * q := by omega
  have f3 : p' * d' = 1 + b' * t := by omega
  have f4 : d * d' * p' = d * (1 + b' * t) := by rw [← f3]; clear f2 f3 hx hy hr hm e e' hu hz; grind
  have f5 : d * d' * (p * r) = d' * r * (1 + b * q) := by rw [← f2]; clear f2 f3 f4 hx hy hr hm e e' hu hz; grind
  have f6 : d * d' * (p' - p * r) = d * d' * p' - d * d' * (p * r) := by clear f2 f3 f4 f5 hx hy hr hm e e' hu hz; grind
  rw [f4, f5, hz, hr] at f6
  obtain ⟨w, hw⟩ : ∃ w, d - d' * r = g * w := by
    refine ⟨d * d' * z - d * b' * u + d' * r * b * u * r, ?_⟩
    have : d - d' * r = d * d' * (g * z) - d * (b' * t) + d' * r * (b * (t * r)) := by clear f2 f3 f4 f5 hx hy hr hm e e' hu hz; grind
    rw [this]
    conv => lhs; rw [hu]
    clear this f2 f3 f4 f5 f6 hx hy hr hm e e' hu hz
    grind
  -- t r k = d - d' r modulo m : k = x x' w
  refine ⟨x * x' * w, ?_⟩
  have h1 : r * x' = 1 - m * y' := by have := e'; simp at this; omega
  have h2 : t * x = g - m * y := by omega
  refine ⟨(g - m * y) * y' * w + y * w, ?_⟩
  have h3 : t * d - t * (x * x' * w) * q - d' * q = t * (d - d' * r - (t * x) * (r * x') * w) := by rw [hr]; clear h1 h2 hw f2 f3 f4 f5 f6 hx hy hr hm e e' hu hz; grind
  rw [h3, h1, h2, hw, hm]
  clear h1 h2 h3 hw f2 f3 f4 f5 f6 hx hy hr hm e e' hu hz
  grind
/-- Equivalence to an image. -/
theorem cond_img {n p q B D a b c e u v B' D' s : Int} (hs : s = 1 ∨ s = -1) (hx : p * D - B * q = 1) (hy : u * D' - B' * v = 1) (hm : a * e - b * c = 1) (h1 : a * p + b * q = s * u) (h2 : c * p + e * q = s * v) (hc : n ∣ c) :
    ∃ k, n ∣ v * D - v * k * q - D' * q := by
  obtain ⟨z, hz⟩ := hc
  have hss : s * s = 1 := by rcases hs with h | h <;> rw [h] <;> rfl
  -- X = a B + b D, Y = c B + e D
  have hdet : (a * p + b * q) * (c * B + e * D) - (a * B + b * D) * (c * p + e * q) = 1 := by
    have : (a * p + b * q) * (c * B + e * D) - (a * B + b * D) * (c * p + e * q) = (a * e - b * c) * (p * D - B * q) := by clear hs hx hy hm h1 h2 hz hss; grind
    rw [this, hm, hx]; rfl
  have hcc : (c * p + e * q) * D - (c * B + e * D) * q = c := by
    have : (c * p + e * q) * D - (c * B + e * D) * q = c * (p * D - B * q) := by clear hs hx hy hm h1 h2 hz hss hdet; grind
    rw [this, hx, Int.mul_one]
  rw [h1, h2] at hdet
  rw [h2] at hcc
  generalize a * B + b * D = X at *
  generalize c * B + e * D = Y at *
  have hY : u * Y - v * X = s := by
    have : s * (u * Y - v * X) = 1 := by clear hs hx hy hm h1 h2 hz hss hcc; grind
    have h3 : s * (s * (u * Y - v * X)) = s := by rw [this, Int.mul_one]
    rw [← Int.mul_assoc, hss, Int.one_mul] at h3
    exact h3
  have hY2 : Y = v * (D' * X - B' * Y) + D' * s := by
    rw [← hY]
    have : v * (D' * X - B' * Y) + D' * (u * Y - v * X) = Y * (u * D' - B' * v) := by clear hs hx hy hm h1 h2 hz hss hcc hY hdet; grind
    rw [this, hy, Int.mul_one]
  refine ⟨s * (D' * X - B' * Y), s * z, ?_⟩
  have e1 : n * (s * z) = s * c := by rw [hz]; clear hs hx hy hm h1 h2 hz hss hcc hY hdet hY2; grind
  rw [e1, ← hcc]
  generalize D' * X - B' * Y = T at *
  rw [hY2]
  have : s * (s * v * D - (v * T + D' * s) * q) = (s * s) * (v * D) - s * (v * T) * q - (s * s) * (D' * q) := by clear hs hx hy hm h1 h2 hz hss hcc hY hdet hY2 e1; grind
  rw [this, hss]
  clear hs hx hy hm h1 h2 hz hss hcc hY hdet hY2 e1 this
  grind
end Go.Proofs.Ytfojlanjhdifoaa
