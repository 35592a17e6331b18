/- Primitive roots and squares modulo a prime, as the program's tests tell them. -/
import Derived.Test.YtoeailhcobbhjaaTonMath
import Derived.Test.YtoeailhcobbhjaaDivMath
import Derived.Test.YtoeailhcobbhjaaKronMath
namespace Go.Proofs.Ytoeailhcobbhjaa
open Go.RowKit

theorem one_emod {p : Nat} (h : 1 < p) : (1 : Int) % (p : Int) = 1 := Int.emod_eq_of_lt (by omega) (by omega)
theorem pow_is_one {p : Nat} (h : 1 < p) {a : Int} {k : Nat} : a ^ k % (p : Int) = 1 ↔ (p : Int) ∣ a ^ k - 1 := by
  rw [← pow_one_iff, one_emod h]
/-- The program's test. -/
def primB (a p : Nat) (F : List (Nat × Nat)) : Bool := F.all fun f => decide (¬ (a : Int) ^ ((p - 1) / f.1) % (p : Int) = 1)
theorem primB_true {a p : Nat} {F : List (Nat × Nat)} : primB a p F = true ↔ ∀ j (hj : j < F.length), ¬ (a : Int) ^ ((p - 1) / F[j].1) % (p : Int) = 1 := by
  unfold primB
  rw [List.all_eq_true]
  constructor
  · intro h j hj; exact of_decide_eq_true (h _ (List.getElem_mem hj))
  · intro h x hx
    obtain ⟨j, hj, rfl⟩ := List.getElem_of_mem hx
    exact decide_eq_true (h j hj)
theorem primB_iff {p a : Nat} (hp : Pr p) (h1 : 1 ≤ a) (h2 : a < p) : primB a p (facs 2 (p - 1)) = true ↔ IsOrd (a : Int) p (p - 1) := by
  have hp0 := hp.1
  have hF := facs_two_is (n := p - 1) (by omega)
  rw [primB_true]
  constructor
  · intro h
    refine isOrd_of_primes (by omega) (fermat hp (not_dvd_small h1 h2)) fun q hq hd hc => ?_
    rw [← hF.mul] at hd
    obtain ⟨f, hf, rfl⟩ := pr_mem hq _ (fun x hx => (hF.mem x hx).1) hd
    obtain ⟨j, hj, rfl⟩ := List.getElem_of_mem hf
    exact h j hj ((pow_is_one hp0).2 hc)
  · intro h j hj hc
    have h3 := h.min _ ((pow_is_one hp0).1 hc)
    have hf := hF.mem _ (List.getElem_mem hj)
    have h4 := hf.1.1
    have hd : (facs 2 (p - 1))[j].1 ∣ p - 1 := by
      have := Nat.dvd_trans (dvd_pow_self_of _ hf.2.2) (dvd_prod (l := (facs 2 (p - 1)).map fun q => q.1 ^ q.2) (List.mem_map.2 ⟨(facs 2 (p - 1))[j], List.getElem_mem hj, rfl⟩))
      rwa [hF.mul] at this
    generalize (facs 2 (p - 1))[j].1 = q at *
    obtain ⟨c, hc⟩ := hd
    rw [hc, Nat.mul_div_cancel_left _ (by omega)] at h3
    rcases Nat.eq_zero_or_pos c with h0 | h0
    · subst h0; omega
    · have h5 := Nat.le_of_dvd h0 h3
      have h6 : 2 * c ≤ q * c := Nat.mul_le_mul_right _ (by omega)
      omega
/-- The least primitive root. -/
structure RootIs (p r : Nat) : Prop where
  lo : 1 ≤ r
  hi : r < p
  ord : IsOrd (r : Int) p (p - 1)
  least : ∀ j, 1 ≤ j → j < r → ¬ IsOrd (j : Int) p (p - 1)
theorem root_exists {p : Nat} (hp : Pr p) : ∃ r, RootIs p r := by
  obtain ⟨g, g1, g2, g3⟩ := prim_exists hp
  obtain ⟨r, ⟨r1, r2, r3⟩, hl⟩ := least_of (P := fun n => 1 ≤ n ∧ n < p ∧ IsOrd (n : Int) p (p - 1)) g ⟨g1, g2, g3⟩
  exact ⟨r, r1, r2, r3, fun j j1 j2 j3 => hl j j2 ⟨j1, by omega, j3⟩⟩
theorem kron_pr {p : Nat} {a : Int} (hp : Pr p) (h2 : p ≠ 2) : kron a p = jacI a p := by
  have := kron_odd (a := a) (n := (p : Int)) (by have := hp.1; omega) (by have := pr_odd hp (by have := hp.1; omega); omega)
  rwa [Int.natAbs_natCast] at this
theorem jacI_cases {p : Nat} (a : Int) (h2 : p ≠ 2) : jacI a p = 0 ∨ jacI a p = 1 ∨ jacI a p = -1 := by
  have := lg_cases a p
  unfold lg at this
  rwa [if_neg h2] at this
theorem small_dvd {p : Nat} (hp : Pr p) (h2 : p ≠ 2) {z : Int} (h : (p : Int) ∣ z) (h1 : -2 ≤ z) (h3 : z ≤ 2) : z = 0 := by
  have hp0 := hp.1
  obtain ⟨t, rfl⟩ := h
  rcases Int.lt_trichotomy t 0 with ht | ht | ht
  · have := Int.mul_le_mul_of_nonneg_left (show t ≤ -1 by omega) (show 0 ≤ (p : Int) by omega)
    omega
  · simp [ht]
  · have := Int.mul_le_mul_of_nonneg_left (show 1 ≤ t by omega) (show 0 ≤ (p : Int) by omega)
    omega
theorem kron_one {p : Nat} {a : Int} (hp : Pr p) (h2 : p ≠ 2) (h : (p : Int) ∣ a ^ (p / 2) - 1) : kron a p = 1 := by
  rw [kron_pr hp h2]
  have e := euler_int (a := a) hp h2
  have h3 := Int.dvd_sub e h
  have h4 := small_dvd hp h2 h3 (by rcases jacI_cases a h2 with k | k | k <;> rw [k] <;> omega) (by rcases jacI_cases a h2 with k | k | k <;> rw [k] <;> omega)
  omega
theorem one_of_kron {p : Nat} {a : Int} (hp : Pr p) (h2 : p ≠ 2) (h : kron a p = 1) : (p : Int) ∣ a ^ (p / 2) - 1 := by
  rw [kron_pr hp h2] at h
  have e := euler_int (a := a) hp h2
  rwa [h] at e
theorem neg_of_kron {p : Nat} {a : Int} (hp : Pr p) (h2 : p ≠ 2) (h : kron a p = -1) : (p : Int) ∣ a ^ (p / 2) - -1 := by
  rw [kron_pr hp h2] at h
  have e := euler_int (a := a) hp h2
  rwa [h] at e
theorem zero_of_kron {p : Nat} {a : Int} (hp : Pr p) (h2 : p ≠ 2) : kron a p = 0 ↔ (p : Int) ∣ a := by
  rw [kron_pr hp h2]
  have e := euler_int (a := a) hp h2
  constructor
  · intro h
    rw [h, Int.sub_zero] at e
    exact pr_int_pow hp e
  · intro h
    have hp2 : 1 ≤ p / 2 := by have := hp.1; omega
    have h3 : (p : Int) ∣ a ^ (p / 2) := Int.dvd_trans h (by
      obtain ⟨k, hk⟩ : ∃ k, p / 2 = k + 1 := ⟨p / 2 - 1, by omega⟩
      rw [hk, Int.pow_succ]; exact Int.dvd_mul_left _ _)
    have h4 := Int.dvd_sub h3 e
    have h5 := small_dvd hp h2 h4 (by rcases jacI_cases a h2 with k | k | k <;> rw [k] <;> omega) (by rcases jacI_cases a h2 with k | k | k <;> rw [k] <;> omega)
    omega
theorem nonres_kron {p : Nat} (hp : Pr p) (h2 : p ≠ 2) : ∃ c : Nat, 2 ≤ c ∧ c < p ∧ kron (c : Int) p = -1 := by
  obtain ⟨c, c1, c2, c3⟩ := nonres hp h2
  refine ⟨c, c1, c2, ?_⟩
  have h0 : ¬ kron (c : Int) p = 0 := fun h => not_dvd_small (by omega) c2 ((zero_of_kron hp h2).1 h)
  have h1 : ¬ kron (c : Int) p = 1 := fun h => c3 (one_of_kron hp h2 h)
  have := jacI_cases (p := p) (c : Int) h2
  rw [← kron_pr hp h2] at this
  omega
/-- The symbol of the residue is the symbol. -/
theorem kron_emod {p : Nat} {a : Int} (hp : Pr p) (h2 : p ≠ 2) : kron (a % (p : Int)) p = kron a p := by
  have e1 := euler_int (a := a % (p : Int)) hp h2
  have e2 := euler_int (a := a) hp h2
  rw [← kron_pr hp h2] at e1 e2
  have h3 : (p : Int) ∣ (a % (p : Int)) ^ (p / 2) - a ^ (p / 2) := dvd_pow_sub (dvd_emod_sub _ _) _
  have h4 : (p : Int) ∣ kron (a % (p : Int)) p - kron a p := by
    have h5 := Int.dvd_sub (Int.dvd_sub h3 e1) (Int.dvd_neg.2 e2)
    have h6 := Int.dvd_neg.2 (show (p : Int) ∣ kron a p - kron (a % (p : Int)) p by
      have := Int.dvd_sub e1 e2
      have h7 := Int.dvd_sub h3 this
      rwa [show (a % (p : Int)) ^ (p / 2) - a ^ (p / 2) - ((a % (p : Int)) ^ (p / 2) - kron (a % (p : Int)) p - (a ^ (p / 2) - kron a p)) = -(kron a p - kron (a % (p : Int)) p) by omega, Int.dvd_neg] at h7)
    rwa [Int.neg_sub] at h6
  have c1 := jacI_cases (p := p) (a % (p : Int)) h2
  have c2 := jacI_cases (p := p) a h2
  rw [← kron_pr hp h2] at c1 c2
  have := small_dvd hp h2 h4 (by omega) (by omega)
  omega
end Go.Proofs.Ytoeailhcobbhjaa
