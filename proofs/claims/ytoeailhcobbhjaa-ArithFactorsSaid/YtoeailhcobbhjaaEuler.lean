/- Euler's criterion by the lemma of Gauss: the power of a at (p-1)/2 is the Jacobi symbol modulo a prime. Nothing of the program. -/
import Derived.Test.YtoeailhcobbhjaaKronMath
import Derived.Test.YtoeailhcobbhjaaFacMath
namespace Go.Proofs.Ytoeailhcobbhjaa

/-- The product of f over 1, .., h. -/
def prodTo (f : Nat → Nat) : Nat → Nat
  | 0 => 1
  | h + 1 => prodTo f h * f (h + 1)
theorem prodTo_list (f : Nat → Nat) (h : Nat) : prodTo f h = prod ((List.range h).map fun i => f (i + 1)) := by
  induction h with
  | zero => rfl
  | succ h ih => simp [prodTo, List.range_succ, ih, prod_append, prod]
theorem prod_perm {l m : List Nat} (h : l.Perm m) : prod l = prod m := by
  induction h with
  | nil => rfl
  | cons x _ ih => simp only [prod, ih]
  | swap x y l => simp only [prod]; grind
  | trans _ _ h1 h2 => rw [h1, h2]
theorem prodTo_perm {h : Nat} {s : Nat → Nat} (hm : ∀ i, 1 ≤ i → i ≤ h → 1 ≤ s i ∧ s i ≤ h) (hi : ∀ i j, 1 ≤ i → i ≤ h → 1 ≤ j → j ≤ h → s i = s j → i = j) :
    prodTo s h = prodTo (fun i => i) h := by
  rw [prodTo_list, prodTo_list]
  refine prod_perm ?_
  have hn : ((List.range h).map fun i => s (i + 1)).Nodup := by
    rw [List.Nodup, List.pairwise_map]
    refine (List.nodup_range (n := h)).imp_of_mem ?_
    intro a b ha hb hab e
    rw [List.mem_range] at ha hb
    exact hab (by have := hi (a + 1) (b + 1) (by omega) (by omega) (by omega) (by omega) e; omega)
  have hn2 : ((List.range h).map fun i => i + 1).Nodup := by
    rw [List.Nodup, List.pairwise_map]
    refine (List.nodup_range (n := h)).imp ?_
    intro a b hab e
    exact hab (by omega)
  have hsub : ∀ x ∈ (List.range h).map (fun i => s (i + 1)), x ∈ (List.range h).map fun i => i + 1 := by
    intro x hx
    obtain ⟨i, hi', rfl⟩ := List.mem_map.1 hx
    rw [List.mem_range] at hi'
    obtain ⟨h1, h2⟩ := hm (i + 1) (by omega) (by omega)
    exact List.mem_map.2 ⟨s (i + 1) - 1, by rw [List.mem_range]; omega, by omega⟩
  rw [List.perm_ext_iff_of_nodup hn hn2]
  intro a
  refine ⟨hsub a, fun ha => Classical.byContradiction fun hna => ?_⟩
  have := List.Nodup.length_le_of_subset (l₁ := a :: (List.range h).map fun i => s (i + 1)) (l₂ := (List.range h).map fun i => i + 1) (List.nodup_cons.2 ⟨hna, hn⟩) (by
    intro x hx
    rcases List.mem_cons.1 hx with rfl | hx
    · exact ha
    · exact hsub x hx)
  simp at this
  omega
/-- Gauss: the powers, with signs, up to multiples of n. -/
theorem gauss_step {a n : Nat} (hn : 0 < n) : ∀ h : Nat, (n : Int) ∣ (a : Int) ^ h * (prodTo (fun i => i) h : Int) - (-1) ^ sumTo (fun i => ng n (a * i)) h * (prodTo (fun i => up n (a * i)) h : Int) := by
  intro h
  induction h with
  | zero => simp [prodTo, sumTo]
  | succ h ih =>
    simp only [prodTo, sumTo, Int.pow_succ, Int.natCast_mul, Int.pow_add]
    obtain ⟨t, ht⟩ := ih
    generalize (a : Int) ^ h = A at *
    generalize (prodTo (fun i => i) h : Int) = B at *
    generalize (-1 : Int) ^ sumTo (fun i => ng n (a * i)) h = C at *
    generalize (prodTo (fun i => up n (a * i)) h : Int) = D at *
    have e3 := Nat.div_add_mod (a * (h + 1)) n
    have hl := Nat.mod_lt (a * (h + 1)) hn
    have key : ∃ u : Int, (a : Int) * ((h + 1 : Nat) : Int) = (-1) ^ ng n (a * (h + 1)) * (up n (a * (h + 1)) : Int) + (n : Int) * u := by
      rcases up_rel n (a * (h + 1)) with ⟨e1, e2⟩ | ⟨e1, e2⟩
      · refine ⟨((a * (h + 1) / n : Nat) : Int), ?_⟩
        rw [e1, e2, Int.pow_zero, Int.one_mul, ← Int.natCast_mul, ← Int.natCast_mul]
        omega
      · refine ⟨((a * (h + 1) / n : Nat) : Int) + 1, ?_⟩
        rw [e1, e2, Int.mul_add, Int.mul_one, ← Int.natCast_mul, ← Int.natCast_mul]
        have : ((-1 : Int)) ^ 1 = -1 := rfl
        rw [this]
        omega
    obtain ⟨u, hu⟩ := key
    generalize (-1 : Int) ^ ng n (a * (h + 1)) = E at *
    generalize (up n (a * (h + 1)) : Int) = G at *
    refine ⟨t * ((a : Int) * ((h + 1 : Nat) : Int)) + C * D * u, ?_⟩
    have e1 : A * B = C * D + n * t := by omega
    have e2 : A * (a : Int) * (B * ((h + 1 : Nat) : Int)) = (A * B) * ((a : Int) * ((h + 1 : Nat) : Int)) := by grind
    rw [e2, e1]
    have e4 : (C * D + ↑n * t) * (↑a * ((h + 1 : Nat) : Int)) = C * D * (↑a * ((h + 1 : Nat) : Int)) + ↑n * (t * (↑a * ((h + 1 : Nat) : Int))) := by grind
    rw [e4]
    conv => lhs; arg 1; arg 1; rw [hu]
    grind
theorem prodTo_cop {p h : Nat} (hp : Pr p) (hh : h < p) : ¬ p ∣ prodTo (fun i => i) h := by
  induction h with
  | zero =>
    intro hd
    have := Nat.le_of_dvd (by decide) hd
    have := hp.1
    simp [prodTo] at *
    omega
  | succ h ih =>
    intro hd
    simp only [prodTo] at hd
    rcases hp.dvd_mul hd with h1 | h1
    · exact ih (by omega) h1
    · have := Nat.le_of_dvd (by omega) h1; omega
theorem neg_one_pow (k : Nat) : (-1 : Int) ^ k = if k % 2 = 0 then 1 else -1 := by
  induction k with
  | zero => rfl
  | succ k ih =>
    rw [Int.pow_succ, ih]
    by_cases h : k % 2 = 0
    · rw [if_pos h, if_neg (by omega)]; rfl
    · rw [if_neg h, if_pos (by omega)]; rfl
/-- Euler's criterion. -/
theorem euler {p a : Nat} (hp : Pr p) (h2 : p ≠ 2) : (p : Int) ∣ (a : Int) ^ (p / 2) - jac a p := by
  have hodd : p % 2 = 1 := by
    rcases Nat.mod_two_eq_zero_or_one p with h | h
    · exact absurd h (hp.div (by omega) (by have := hp.1; omega))
    · exact h
  by_cases hc : Nat.gcd a p = 1
  · have h1 := gauss_step (a := a) (n := p) (by have := hp.1; omega) (p / 2)
    have hn : p = 2 * (p / 2) + 1 := by omega
    rw [prodTo_perm (s := fun i => up p (a * i)) (fun i h1 h2 => up_range hn hc h1 h2) (up_inj hn hc)] at h1
    have hj : jac a p = (-1) ^ sumTo (fun i => ng p (a * i)) (p / 2) := by
      rw [neg_one_pow]
      unfold jac
      rw [if_pos hc]
      rfl
    rw [← hj, ← Int.sub_mul] at h1
    have hnd := prodTo_cop hp (h := p / 2) (by omega)
    rw [← Int.natAbs_dvd_natAbs, Int.natAbs_mul] at h1
    rw [← Int.natAbs_dvd_natAbs]
    rcases hp.dvd_mul h1 with h | h
    · exact h
    · exact absurd h hnd
  · have hd : p ∣ a := by
      refine Classical.byContradiction fun hnd => hc ?_
      rw [Nat.gcd_comm]
      exact hp.coprime hnd
    have hj : jac a p = 0 := by unfold jac; rw [if_neg hc]
    rw [hj, Int.sub_zero]
    obtain ⟨k, hk⟩ : ∃ k, p / 2 = k + 1 := ⟨p / 2 - 1, by have := hp.1; omega⟩
    rw [hk, Int.pow_succ]
    exact Int.dvd_mul_of_dvd_right (Int.natCast_dvd_natCast.2 hd)
/-- For any integer a. -/
theorem euler_int {p : Nat} {a : Int} (hp : Pr p) (h2 : p ≠ 2) : (p : Int) ∣ a ^ (p / 2) - jacI a p := by
  have hodd : p % 2 = 1 := by
    rcases Nat.mod_two_eq_zero_or_one p with h | h
    · exact absurd h (hp.div (by omega) (by have := hp.1; omega))
    · exact h
  have h := euler (a := a.natAbs) hp h2
  rcases Int.lt_or_le a 0 with ha | ha
  · have e : a = -1 * (a.natAbs : Int) := by omega
    have e1 : a ^ (p / 2) = (-1) ^ (p / 2) * (a.natAbs : Int) ^ (p / 2) := by
      conv => lhs; rw [e]
      rw [Int.mul_pow]
    have e2 : jacI a p = (-1) ^ (p / 2) * jac a.natAbs p := by
      unfold jacI
      rw [neg_one_pow]
      by_cases h4 : p % 4 = 3
      · rw [if_pos ⟨ha, h4⟩, if_neg (by omega)]
      · rw [if_neg (by omega), if_pos (by omega)]
    rw [e1, e2, ← Int.mul_sub]
    exact Int.dvd_mul_of_dvd_right h
  · rw [jacI, if_neg (by omega), Int.one_mul]
    have e : a = (a.natAbs : Int) := by omega
    conv => rhs; arg 1; rw [e]
    exact h
theorem jacI_mul_right (a : Int) {m n : Nat} (hm : m % 2 = 1) (hn : n % 2 = 1) : jacI a (m * n) = jacI a m * jacI a n := by
  unfold jacI
  rw [jac_mul_all _ _ _ hm hn]
  have e4 : m * n % 4 = (m % 4) * (n % 4) % 4 := Nat.mul_mod _ _ _
  have h1 : m % 4 = 1 ∨ m % 4 = 3 := by omega
  have h2 : n % 4 = 1 ∨ n % 4 = 3 := by omega
  by_cases ha : a < 0
  · rcases h1 with h1 | h1 <;> rcases h2 with h2 | h2 <;> rw [h1, h2] at e4 <;> simp [ha, h1, h2, e4, Int.mul_neg, Int.neg_mul]
  · simp [ha]
end Go.Proofs.Ytoeailhcobbhjaa
