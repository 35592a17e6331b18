/- Mathematics of the action: products, stabilizers, lifts. -/
import Derived.Test.YtgnekmaonnjfkaaIdxL
import Derived.Test.YtgnekmaonnjfkaaAwakeL
import Derived.Test.YtgnekmaonnjfkaaMulL
namespace Go.Proofs.Ytgnekmaonnjfkaa
open Go.RowKit
set_option linter.unusedVariables false

/-- The image of the normal form of (0 : 1) is the class of the lower row. -/
theorem row_img {n a b c d u0 v0 T : Int} (h0 : NF n 0 1 u0 v0 T) : n ∣ T * (u0 * a + v0 * c) - c ∧ n ∣ T * (u0 * b + v0 * d) - d := by
  obtain ⟨p, hp⟩ := h0.eu
  obtain ⟨q, hq⟩ := h0.ev
  have e1 : T * u0 = n * p := by omega
  have e2 : T * v0 = n * q + 1 := by omega
  constructor
  · refine ⟨p * a + q * c, ?_⟩
    have : T * (u0 * a + v0 * c) = T * u0 * a + T * v0 * c := by clear hp hq e1 e2; grind
    rw [this, e1, e2]; clear hp hq e1 e2 this; grind
  · refine ⟨p * b + q * d, ?_⟩
    have : T * (u0 * b + v0 * d) = T * u0 * b + T * v0 * d := by clear hp hq e1 e2; grind
    rw [this, e1, e2]; clear hp hq e1 e2 this; grind
theorem unit_dvd {n s x : Int} (hs : Int.gcd s n = 1) (h : n ∣ s * x) : n ∣ x := by
  obtain ⟨r, p, hp⟩ := unit_inv hs
  obtain ⟨q, hq⟩ := h
  refine ⟨r * q - p * x, ?_⟩
  have e : s * r = n * p + 1 := by omega
  have e2 : r * (s * x) = (s * r) * x := by clear hp hq e; grind
  rw [hq, e] at e2
  clear hp hq e
  grind
theorem stab {n a b c d u0 v0 x y T T' : Int} (hdet : a * d - b * c = 1) (h0 : NF n 0 1 u0 v0 T) (h : NF n (u0 * a + v0 * c) (u0 * b + v0 * d) x y T') : (x = u0 ∧ y = v0) ↔ n ∣ c := by
  obtain ⟨i1, i2⟩ := row_img (a := a) (b := b) (c := c) (d := d) h0
  generalize u0 * a + v0 * c = P at *
  generalize u0 * b + v0 * d = Q at *
  constructor
  · rintro ⟨rfl, rfl⟩
    obtain ⟨R, hR, ⟨p, hp⟩, _⟩ := h.inv
    obtain ⟨q, hq⟩ := i1
    obtain ⟨r, hr⟩ := h0.eu
    refine unit_dvd hR ⟨T * p + r - R * q, ?_⟩
    have e1 : R * P = n * p + x := by omega
    have e2 : c = T * P - n * q := by omega
    have e3 : T * x = n * r := by omega
    have e4 : R * c = T * (R * P) - n * (R * q) := by rw [e2]; clear hp hq hr e1 e2 e3; grind
    rw [e4, e1, Int.mul_add, e3]
    clear hp hq hr e1 e2 e3 e4
    grind
  · rintro ⟨z, hz⟩
    obtain ⟨S, s, hs⟩ := unit_inv h0.cop
    have hd : n ∣ d * a - 1 := ⟨b * z, by rw [Int.mul_comm d a]; have : b * c = n * (b * z) := by rw [hz]; clear hs hz hdet; grind
                                          omega⟩
    have hS : Int.gcd (S * d) n = 1 := unit_mul (unit_of' ⟨s, hs⟩) (unit_of hd)
    have k1 : n ∣ (S * d) * 0 - P := by
      obtain ⟨q, hq⟩ := i1
      refine ⟨s * P - S * (q + z), ?_⟩
      have e1 : T * S = n * s + 1 := by omega
      have e2 : T * P = n * (q + z) := by rw [Int.mul_add]; omega
      have e3 : S * (T * P) = (T * S) * P := by clear hq e1 e2 hs hz hdet; grind
      rw [e1, e2] at e3
      clear hq e1 e2 hs hz hdet
      grind
    have k2 : n ∣ (S * d) * 1 - Q := by
      obtain ⟨q, hq⟩ := i2
      refine ⟨s * Q - S * q, ?_⟩
      have e1 : T * S = n * s + 1 := by omega
      have e2 : T * Q = n * q + d := by omega
      have e3 : S * (T * Q) = (T * S) * Q := by clear hq e1 e2 hs hz hdet; grind
      rw [e1, e2] at e3
      clear hq e1 e2 hs hz hdet
      grind
    obtain ⟨e1, e2⟩ := h0.orbit hS k1 k2 h
    exact ⟨e1.symm, e2.symm⟩
/-- The point that a matrix moves (0 : 1) to is its lower row. -/
theorem img_row {n a b c d u0 v0 u v x y T T' : Int} (h0 : NF n 0 1 u0 v0 T) (h : NF n (u0 * a + v0 * c) (u0 * b + v0 * d) x y T') (hc : NF n c d u v 1) : x = u ∧ y = v := by
  obtain ⟨i1, i2⟩ := row_img (a := a) (b := b) (c := c) (d := d) h0
  exact NF.orbit h0.cop i1 i2 h hc
theorem two_steps {n u v U V T x y x' y' T1 T2 a b c d a' b' c' d' : Int} (h : NF n (u * a + v * c) (u * b + v * d) U V T)
    (h1 : NF n (U * a' + V * c') (U * b' + V * d') x y T1)
    (h2 : NF n (u * (a * a' + b * c') + v * (c * a' + d * c')) (u * (a * b' + b * d') + v * (c * b' + d * d')) x' y' T2) : x = x' ∧ y = y' := by
  obtain ⟨p, hp⟩ := h.eu
  obtain ⟨q, hq⟩ := h.ev
  refine NF.orbit h.cop ⟨p * a' + q * c', ?_⟩ ⟨p * b' + q * d', ?_⟩ h1 h2
  · have e : T * (U * a' + V * c') = T * U * a' + T * V * c' := by clear hp hq; grind
    rw [e, show T * U = n * p + (u * a + v * c) by omega, show T * V = n * q + (u * b + v * d) by omega]
    clear hp hq e
    grind
  · have e : T * (U * b' + V * d') = T * U * b' + T * V * d' := by clear hp hq; grind
    rw [e, show T * U = n * p + (u * a + v * c) by omega, show T * V = n * q + (u * b + v * d) by omega]
    clear hp hq e
    grind
theorem get_ix {k i : Nat} {u v : Nat} (h : (pts k)[i]? = some (u, v)) : (u, v) ∈ pts k ∧ ix (pts k) u v = i ∧ i < (pts k).length := by
  obtain ⟨h1, h2⟩ := List.getElem?_eq_some_iff.1 h
  refine ⟨by rw [← h2]; exact List.getElem_mem h1, ?_, h1⟩
  have := ix_at (pts_nodup k) h1
  rwa [h2] at this
theorem ix_some {k : Nat} {u v : Nat} (h : (u, v) ∈ pts k) : (pts k)[ix (pts k) u v]? = some (u, v) := by
  obtain ⟨h1, h2⟩ := ix_get h
  rw [List.getElem?_eq_getElem h1, h2]
theorem pt_nf {k u v : Nat} (h : (u, v) ∈ pts k) : NF k u v u v 1 ∧ Cop3 k u v := by
  obtain ⟨h1, h2, h3⟩ := mem_pts.1 h
  have hp := (ptB_iff h1 h2).1 h3
  exact ⟨hp.nf, hp.cop⟩
/-- What an act that succeeds is. -/
theorem ActE.ok {n i a b c d j : Int} (h : ActE n i a b c d j 0) : ∃ (k u v x y : Nat) (T : Int), n = k ∧ 1 ≤ k ∧ (k : Int) ≤ 120 ∧ lvB n = true ∧ 0 ≤ i ∧ (pts k)[i.toNat]? = some (u, v) ∧ fitB a b c d = true ∧ Int.gcd (a * d - b * c) n = 1 ∧ NF n (u * a + v * c) (u * b + v * d) x y T ∧ (x, y) ∈ pts k ∧ j = ix (pts k) x y := by
  generalize hz : (0 : Int) = z at h
  cases h with
  | out _ => exact absurd hz (by decide)
  | cop _ _ _ _ _ => exact absurd hz (by decide)
  | yes u v x y T h1 h2 h3 h4 h5 h6 h7 h8 =>
    obtain ⟨k, rfl, k1, k2⟩ := lv_nat h1
    have e := ptI_yes h1
    rw [e] at h3 h8 ⊢
    exact ⟨k, u, v, x, y, T, rfl, k1, k2, h1, h2, h3, h4, h5, h6, h8, rfl⟩
/-- An act within its limits. -/
theorem ActE.make {k : Nat} {i a b c d j e : Int} {u v : Nat} (hlv : lvB (k : Int) = true) (hi : 0 ≤ i) (hg : (pts k)[i.toNat]? = some (u, v)) (hf : fitB a b c d = true) (h : ActE k i a b c d j e) :
    (¬ Int.gcd (a * d - b * c) k = 1 ∧ j = 0 ∧ e = 9) ∨ (Int.gcd (a * d - b * c) k = 1 ∧ e = 0 ∧ ∃ (x y : Nat) (T : Int), NF k (u * a + v * c) (u * b + v * d) x y T ∧ (x, y) ∈ pts k ∧ j = ix (pts k) x y) := by
  have hp := ptI_yes hlv
  have hil := (List.getElem?_eq_some_iff.1 hg).1
  cases h with
  | out h =>
    rw [hp] at h
    rcases h with h | h | h | h
    · rw [h] at hlv; cases hlv
    · omega
    · omega
    · rw [h] at hf; cases hf
  | cop _ _ _ _ h => exact .inl ⟨h, rfl, rfl⟩
  | yes u' v' x y T _ _ h3 _ h5 h6 _ h8 =>
    rw [hp] at h3 h8 ⊢
    rw [hg] at h3
    cases h3
    exact .inr ⟨h5, rfl, x, y, T, h6, h8, rfl⟩
theorem acts_eq {n i a b c d a' b' c' d' j j1 e1 j2 e2 : Int} {p q r s : Int} (h : ActE n i a b c d j 0) (hm : mulE ⟨a, b, c, d⟩ ⟨a', b', c', d'⟩ = (⟨p, q, r, s⟩, 0))
    (h1 : ActE n j a' b' c' d' j1 e1) (h2 : ActE n i p q r s j2 e2) : e1 = e2 ∧ j1 = j2 := by
  obtain ⟨k, u, v, x, y, T, rfl, k1, k2, hlv, hi, hget, hf, hg, hN, hxy, rfl⟩ := h.ok
  obtain ⟨hf', hpm, hmm⟩ : fitB a' b' c' d' = true ∧ fitB p q r s = true ∧ (⟨p, q, r, s⟩ : M) = (M.mk a b c d).mul ⟨a', b', c', d'⟩ := by
    by_cases h1 : (M.mk a b c d).ok = true
    · by_cases h2 : (M.mk a' b' c' d').ok = true
      · by_cases h3 : ((M.mk a b c d).mul ⟨a', b', c', d'⟩).ok = true
        · rw [mulE_ok h1 h2 h3] at hm
          have e := (Prod.mk.inj hm).1
          exact ⟨h2, by have : (M.mk p q r s).ok = true := by rw [← e]; exact h3
                        exact this, e.symm⟩
        · rw [mulE_large h1 h2 (by simpa using h3)] at hm
          exact absurd (Prod.mk.inj hm).2 (by decide)
      · rw [mulE_out (.inr (by simpa using h2))] at hm
        exact absurd (Prod.mk.inj hm).2 (by decide)
    · rw [mulE_out (.inl (by simpa using h1))] at hm
      exact absurd (Prod.mk.inj hm).2 (by decide)
  have ep : p = a * a' + b * c' := congrArg M.a hmm
  have eq : q = a * b' + b * d' := congrArg M.b hmm
  have er : r = c * a' + d * c' := congrArg M.c hmm
  have es : s = c * b' + d * d' := congrArg M.d hmm
  have hdet : p * s - q * r = (a * d - b * c) * (a' * d' - b' * c') := by
    rw [ep, eq, er, es]; clear hm hmm h h1 h2 hN hg ep eq er es; grind
  have hj0 : (0 : Int) ≤ (ix (pts k) x y : Nat) := by omega
  have r1 := ActE.make hlv hj0 (by rw [Int.toNat_natCast]; exact ix_some hxy) hf' h1
  have r2 := ActE.make hlv hi hget hpm h2
  rw [hdet] at r2
  rcases r1 with ⟨g1, rfl, rfl⟩ | ⟨g1, rfl, x1, y1, T1, N1, m1, rfl⟩
  · rcases r2 with ⟨_, rfl, rfl⟩ | ⟨g2, _⟩
    · exact ⟨rfl, rfl⟩
    · exfalso
      obtain ⟨w, z, hw⟩ := unit_inv g2
      exact g1 (unit_of (r := (a * d - b * c) * w) ⟨z, by rw [← hw]; clear hw g1 g2 hdet hm hmm h h1 h2 hN hg; grind⟩)
  · rcases r2 with ⟨g2, _⟩ | ⟨_, rfl, x2, y2, T2, N2, m2, rfl⟩
    · exact absurd (unit_mul hg g1) g2
    · rw [ep, eq, er, es] at N2
      obtain ⟨f1, f2⟩ := two_steps hN N1 N2
      obtain rfl : x1 = x2 := by omega
      obtain rfl : y1 = y2 := by omega
      exact ⟨rfl, rfl⟩
theorem act_one {n i j : Int} (h : ActE n i 1 0 0 1 j 0) : j = i := by
  obtain ⟨k, u, v, x, y, T, rfl, k1, k2, hlv, hi, hget, hf, hg, hN, hxy, rfl⟩ := h.ok
  obtain ⟨hm, hix, _⟩ := get_ix hget
  rw [Int.mul_one, Int.mul_zero, Int.add_zero, Int.mul_zero, Int.mul_one, Int.zero_add] at hN
  obtain ⟨hp, hc⟩ := pt_nf hm
  obtain ⟨e1, e2, _⟩ := hN.unique hc hp
  obtain rfl : x = u := by omega
  obtain rfl : y = v := by omega
  rw [hix]; omega
end Go.Proofs.Ytgnekmaonnjfkaa
