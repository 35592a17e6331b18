/- Equivalence of cusps: the witness is of determinant 1 and maps x to y; equivalence is symmetric. -/
import Derived.Test.YtfojlanjhdifoaaREq0L
namespace Go.Proofs.Ytfojlanjhdifoaa
open Go.RowKit

theorem MatIs.unique {p q A B C D A' B' C' D' : Int} (hg : Int.gcd p q = 1) (h : MatIs p q A B C D) (h' : MatIs p q A' B' C' D') : A = A' ∧ B = B' ∧ C = C' ∧ D = D' := by
  cases h with
  | inf e =>
    cases h' with
    | inf _ => exact ⟨rfl, rfl, rfl, rfl⟩
    | fin d q1 _ => omega
  | fin d q1 hd =>
    cases h' with
    | inf e => omega
    | fin d' _ hd' =>
      have := hd.unique hd' hg
      subst this
      exact ⟨rfl, rfl, rfl, rfl⟩
theorem MatIs.col {p q A B C D : Int} (hc : cuspI p q = 0) (h : MatIs p q A B C D) : A = p ∧ C = q := by
  cases h with
  | inf e => exact ⟨((cuspI_zero.1 hc).2.2.inf e).symm, e.symm⟩
  | fin d q1 _ => exact ⟨rfl, rfl⟩
theorem ck_sym {n p q p' q' : Int} (h : ckI n p q p' q' = 0) : ckI n p' q' p q = 0 := by
  rcases ck_chain h with ⟨h1, h2⟩ | ⟨h1, h2, h3⟩ | ⟨h1, h2, h3⟩
  · exact absurd h2.symm h1
  · exact absurd h3.symm h2
  · unfold ckI; rw [if_pos h1, if_pos h3.symm]; exact h2
theorem wit_c (A B C D A' B' C' D' k : Int) : (witM A B C D A' B' C' D' k).c = C' * D - C' * k * C - D' * C := by
  show (C' * 1 + D' * 0) * D + (C' * k + D' * 1) * (-C) = _
  rw [Int.mul_one, Int.mul_zero, Int.add_zero, Int.mul_one, Int.add_mul, Int.mul_neg, Int.mul_neg]
  omega
theorem wit_swap (A B C D A' B' C' D' k j : Int) : (witM A' B' C' D' A B C D j).c = -(witM A B C D A' B' C' D' k).c - C * C' * (k + j) := by
  rw [wit_c, wit_c, Int.mul_add, Int.mul_comm C D', Int.mul_comm D C']
  have e1 : C * j * C' = C * C' * j := by rw [Int.mul_assoc, Int.mul_comm j, ← Int.mul_assoc]
  have e2 : C' * k * C = C * C' * k := by rw [Int.mul_comm (C' * k), ← Int.mul_assoc]
  omega
theorem eq_sym {n p q p' q' m1 m2 m3 m4 z m1' m2' m3' m4' z' : Int} {t : Bool} (h : EqE n p q p' q' true m1 m2 m3 m4 z) (h' : EqE n p' q' p q t m1' m2' m3' m4' z') : t = true ∧ z' = 0 := by
  cases h with
  | yes A B C D A' B' C' D' k _ _ _ _ hK hA hB k0 kn hno hw hm =>
    have hK' := ck_sym hK
    cases h' with
    | err e => exact absurd hK' e
    | yes => exact ⟨rfl, rfl⟩
    | no X Y Z W X' Y' Z' W' _ hA' hB' hno' =>
      exfalso
      obtain ⟨⟨n1, n2⟩, ⟨g1, _⟩, ⟨g2, _⟩⟩ := ck_zero hK
      obtain ⟨rfl, rfl, rfl, rfl⟩ := MatIs.unique (low_gcd g2).1 hA' hB
      obtain ⟨rfl, rfl, rfl, rfl⟩ := MatIs.unique (low_gcd g1).1 hB' hA
      have hd : n ∣ (witM X' Y' Z' W' X Y Z W k).c := by rw [hw]; exact Int.dvd_of_tmod_eq_zero hm
      by_cases hk : k = 0
      · refine hno' 0 (by omega) (by omega) (Int.tmod_eq_zero_of_dvd ?_)
        rw [wit_swap _ _ _ _ _ _ _ _ k 0, hk, Int.add_zero, Int.mul_zero, Int.sub_zero]
        rw [hk] at hd
        exact Int.dvd_neg.2 hd
      · refine hno' (n - k) (by omega) (by omega) (Int.tmod_eq_zero_of_dvd ?_)
        rw [wit_swap _ _ _ _ _ _ _ _ k (n - k), show k + (n - k) = n by omega]
        exact Int.dvd_sub (Int.dvd_neg.2 hd) (Int.dvd_mul_left _ _)
/-- What the witness is. -/
structure Wit (n p q p' q' m1 m2 m3 m4 : Int) : Prop where
  fit : fitB m1 m2 m3 m4 = true
  det : m1 * m4 - m2 * m3 = 1
  low : n ∣ m3
  c0 : cuspI p q = 0
  c1 : cuspI p' q' = 0
  x : m1 * p + m2 * q = p'
  y : m3 * p + m4 * q = q'
theorem EqE.wit {n p q p' q' m1 m2 m3 m4 z : Int} (h : EqE n p q p' q' true m1 m2 m3 m4 z) : (1 ≤ n ∧ n ≤ 120) ∧ Wit n p q p' q' m1 m2 m3 m4 := by
  cases h with
  | yes A B C D A' B' C' D' k _ _ _ _ hK hA hB k0 kn hno hw hm =>
    obtain ⟨⟨n1, n2⟩, ⟨g1, b1, b2, b3⟩, ⟨g2, b4, b5, b6⟩⟩ := ck_zero hK
    have d1 := hA.bd b3 b1 b2
    have d2 := hB.bd b6 b4 b5
    obtain ⟨s1, s2, s3, s4, r1, r2, r3, r4, e1, e2, e3⟩ := wit_step d1.1 d2.1 k0 (by omega : k ≤ 120)
    rw [hw] at e3
    cases e3
    have hf : (M.mk m1 m2 m3 m4).ok = true := by
      rcases mulE_cases ⟨s1, s2, s3, s4⟩ ⟨D, -B, -C, A⟩ with ⟨k, hk, hm⟩ | ⟨_, _, h3, hm⟩
      · rw [hm] at e2; cases e2; exact absurd rfl hk
      · rw [hm] at e2; have := (Prod.mk.inj e2).1; rw [this] at h3; exact h3
    have hdet : (M.mk m1 m2 m3 m4).det = 1 := by
      rw [← hw]
      unfold witM
      rw [M.det_mul, M.det_mul]
      have x1 : (M.mk A' B' C' D').det = 1 := d2.2
      have x2 : (M.mk 1 k 0 1).det = 1 := by show 1 * 1 - k * 0 = 1; omega
      have x3 : (M.mk D (-B) (-C) A).det = 1 := by
        show D * A - -B * -C = 1
        rw [Int.neg_mul_neg, Int.mul_comm D A]; exact d1.2
      rw [x1, x2, x3]; rfl
    obtain ⟨c1, c2⟩ := hA.col g1
    obtain ⟨c3, c4⟩ := hB.col g2
    have hm1 : m1 = (A' * 1 + B' * 0) * D + (A' * k + B' * 1) * (-C) := by have := congrArg M.a hw; exact this.symm
    have hm2 : m2 = (A' * 1 + B' * 0) * (-B) + (A' * k + B' * 1) * A := by have := congrArg M.b hw; exact this.symm
    have hm3 : m3 = (C' * 1 + D' * 0) * D + (C' * k + D' * 1) * (-C) := by have := congrArg M.c hw; exact this.symm
    have hm4 : m4 = (C' * 1 + D' * 0) * (-B) + (C' * k + D' * 1) * A := by have := congrArg M.d hw; exact this.symm
    have key : ∀ s t : Int, (s * D + t * (-C)) * A + (s * (-B) + t * A) * C = s := fun s t => by
      rw [Int.add_mul, Int.add_mul, Int.mul_assoc, Int.mul_assoc, Int.mul_assoc, Int.mul_assoc]
      have u1 : t * (-C * A) = -(t * (A * C)) := by rw [Int.neg_mul, Int.mul_neg, Int.mul_comm C A]
      have u2 : s * (-B * C) = -(s * (B * C)) := by rw [Int.neg_mul, Int.mul_neg]
      have u3 : s * (D * A) - s * (B * C) = s := by rw [← Int.mul_sub, Int.mul_comm D A, d1.2, Int.mul_one]
      rw [u1, u2]; omega
    refine ⟨⟨n1, n2⟩, hf, hdet, Int.dvd_of_tmod_eq_zero hm, g1, g2, ?_, ?_⟩
    · rw [hm1, hm2, ← c1, ← c2, key, Int.mul_one, Int.mul_zero, Int.add_zero]; exact c3
    · rw [hm3, hm4, ← c1, ← c2, key, Int.mul_one, Int.mul_zero, Int.add_zero]; exact c4
theorem Wit.app {n p q p' q' m1 m2 m3 m4 : Int} (h : Wit n p q p' q' m1 m2 m3 m4) : appE m1 m2 m3 m4 p q = (p', q', 0) := by
  obtain ⟨i1, i2, i3⟩ := cuspI_zero.1 h.c1
  refine appE_5 h.fit (by rw [h.det]; decide) h.c0 ?_ i1 (inE_yes (by have := i3.pos; omega) i2)
  rw [h.x, h.y]
  exact low_self i3
theorem EqE.no_zero {n p q p' q' m1 m2 m3 m4 z : Int} (h : EqE n p q p' q' false m1 m2 m3 m4 z) : m1 = 0 ∧ m2 = 0 ∧ m3 = 0 ∧ m4 = 0 := by
  cases h <;> exact ⟨rfl, rfl, rfl, rfl⟩
theorem EqE.unique {n p q p' q' m1 m2 m3 m4 z m1' m2' m3' m4' z' : Int} {t t' : Bool} (h : EqE n p q p' q' t m1 m2 m3 m4 z) (h' : EqE n p' q' p q t' m1' m2' m3' m4' z') (hz : z = 0) : z' = 0 ∧ t' = t := by
  have hK : ckI n p q p' q' = 0 := by cases h with
    | err e => exact hz
    | yes _ _ _ _ _ _ _ _ _ _ _ _ _ e => exact e
    | no _ _ _ _ _ _ _ _ e => exact e
  have hK' := ck_sym hK
  cases t with
  | true => exact ⟨(eq_sym h h').2, (eq_sym h h').1⟩
  | false =>
    cases t' with
    | true =>
      have := (eq_sym h' h).1
      exact absurd this (by decide)
    | false =>
      cases h' with
      | err e => exact absurd hK' e
      | no => exact ⟨rfl, rfl⟩
end Go.Proofs.Ytfojlanjhdifoaa
