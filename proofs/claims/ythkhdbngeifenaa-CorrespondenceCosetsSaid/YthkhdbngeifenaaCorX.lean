/- The Kronecker symbol: multiplicative, periodic, Euler's criterion, the product over a factorization (plain mathematics). -/
import Derived.Test.YthkhdbngeifenaaKronC
import Derived.Test.YthkhdbngeifenaaFunL
import Derived.Test.YthkhdbngeifenaaDimT
namespace Go.Proofs.Ythkhdbngeifenaa
open Go.RowKit
set_option linter.unusedVariables false

theorem strip_two : ∀ (k o r f : Nat), r = o * 2 ^ k → o % 2 = 1 → r ≤ f → strip f 2 r = (k, o) := by
  intro k
  induction k with
  | zero =>
    intro o r f h ho hf
    rw [Nat.pow_zero, Nat.mul_one] at h
    subst h
    obtain ⟨f, rfl⟩ : ∃ f', f = f' + 1 := ⟨f - 1, by omega⟩
    exact strip_miss (by omega)
  | succ k ih =>
    intro o r f h ho hf
    have hpow : 1 ≤ 2 ^ k := Nat.pow_pos (by decide)
    have h1 : 1 ≤ o * 2 ^ k := Nat.mul_le_mul (show 1 ≤ o by omega) hpow
    have e : r = 2 * (o * 2 ^ k) := by rw [h, Nat.pow_succ]; grind
    obtain ⟨f, rfl⟩ : ∃ f', f = f' + 1 := ⟨f - 1, by omega⟩
    rw [strip_hit (by omega), ih o (r / 2) f (by omega) ho (by omega)]
theorem strip_parts {r : Nat} (hr : 1 ≤ r) : r = (strip r 2 r).2 * 2 ^ (strip r 2 r).1 ∧ (strip r 2 r).2 % 2 = 1 ∧ 1 ≤ (strip r 2 r).2 :=
  ⟨strip_mul.symm, strip_odd hr, strip_pos (by decide) hr⟩
theorem strip_prod {r s : Nat} (hr : 1 ≤ r) (hs : 1 ≤ s) : strip (r * s) 2 (r * s) = ((strip r 2 r).1 + (strip s 2 s).1, (strip r 2 r).2 * (strip s 2 s).2) := by
  obtain ⟨e1, o1, _⟩ := strip_parts hr
  obtain ⟨e2, o2, _⟩ := strip_parts hs
  refine strip_two _ _ _ _ ?_ (by rw [Nat.mul_mod, o1, o2]) (Nat.le_refl _)
  conv => lhs; rw [e1, e2]
  rw [Nat.pow_add]
  grind
theorem strip_of_odd {r : Nat} (h : r % 2 = 1) : strip r 2 r = (0, r) := strip_two 0 r r r (by simp) h (Nat.le_refl _)

theorem mod8_mul (a b : Int) : (a * b) % 8 = (a % 8) * (b % 8) % 8 := Int.mul_emod _ _ _
theorem t8_mul {a b : Int} (ha : a % 2 = 1) (hb : b % 2 = 1) : t8 (a * b) = t8 a * t8 b := by
  unfold t8
  rw [mod8_mul]
  have h1 : a % 8 = 1 ∨ a % 8 = 3 ∨ a % 8 = 5 ∨ a % 8 = 7 := by omega
  have h2 : b % 8 = 1 ∨ b % 8 = 3 ∨ b % 8 = 5 ∨ b % 8 = 7 := by omega
  rcases h1 with h1 | h1 | h1 | h1 <;> rcases h2 with h2 | h2 | h2 | h2 <;> rw [h1, h2] <;> decide
theorem two8_mul {m n : Nat} (hm : m % 2 = 1) (hn : n % 2 = 1) : two8 (m * n) = two8 m * two8 n := by
  unfold two8
  rw [Nat.mul_mod]
  have h1 : m % 8 = 1 ∨ m % 8 = 3 ∨ m % 8 = 5 ∨ m % 8 = 7 := by omega
  have h2 : n % 8 = 1 ∨ n % 8 = 3 ∨ n % 8 = 5 ∨ n % 8 = 7 := by omega
  rcases h1 with h1 | h1 | h1 | h1 <;> rcases h2 with h2 | h2 | h2 | h2 <;> rw [h1, h2] <;> decide
theorem jac_mul_all : ∀ (a m n : Nat), m % 2 = 1 → n % 2 = 1 → jac a (m * n) = jac a m * jac a n := by
  intro a
  induction a using Nat.strongRecOn with
  | ind a ih =>
    intro m n hm hn
    have hmn : m * n % 2 = 1 := by rw [Nat.mul_mod, hm, hn]
    by_cases h1 : a % 2 = 1
    · exact jac_mul_right a m n hm hn h1
    · by_cases h0 : a = 0
      · subst h0
        rw [jac_zero, jac_zero, jac_zero]
        by_cases e1 : m = 1
        · subst e1; simp
        · rw [if_neg e1, if_neg (fun e => e1 (Nat.eq_one_of_mul_eq_one_right e)), Int.zero_mul]
      · have e : a = 2 * (a / 2) := by omega
        have hi := ih (a / 2) (by omega) m n hm hn
        rw [e, jac_mul _ _ _ hmn, jac_mul _ _ _ hm, jac_mul _ _ _ hn, jac_two hmn, jac_two hm, jac_two hn, two8_mul hm hn, hi]
        grind
theorem jacI_mul (a b : Int) {n : Nat} (hn : n % 2 = 1) : jacI (a * b) n = jacI a n * jacI b n := by
  unfold jacI
  rw [Int.natAbs_mul, jac_mul _ _ _ hn]
  by_cases h4 : n % 4 = 3
  · have hz : ∀ x : Int, x.natAbs = 0 → jac x.natAbs n = 0 := fun x hx => by rw [hx, jac_zero, if_neg (by omega)]
    rcases Int.lt_trichotomy a 0 with ha | ha | ha <;> rcases Int.lt_trichotomy b 0 with hb | hb | hb
    · have := Int.mul_pos_of_neg_of_neg ha hb
      rw [if_neg (by omega), if_pos ⟨ha, h4⟩, if_pos ⟨hb, h4⟩]; grind
    · rw [hz b (by omega)]; simp
    · have := Int.mul_neg_of_neg_of_pos ha hb
      rw [if_pos ⟨this, h4⟩, if_pos ⟨ha, h4⟩, if_neg (by omega)]; grind
    · rw [hz a (by omega)]; simp
    · rw [hz a (by omega)]; simp
    · rw [hz a (by omega)]; simp
    · have := Int.mul_neg_of_pos_of_neg ha hb
      rw [if_pos ⟨this, h4⟩, if_neg (by omega), if_pos ⟨hb, h4⟩]; grind
    · rw [hz b (by omega)]; simp
    · have := Int.mul_pos ha hb
      rw [if_neg (by omega), if_neg (by omega), if_neg (by omega)]; grind
  · rw [if_neg (by omega), if_neg (by omega), if_neg (by omega)]; grind
theorem kron_def {a n : Int} (hn : n ≠ 0) (h : ¬ (a % 2 = 0 ∧ n % 2 = 0)) : kron a n = sg a n * t8 a ^ (strip n.natAbs 2 n.natAbs).1 * jacI a (strip n.natAbs 2 n.natAbs).2 := by
  unfold kron; rw [if_neg hn, if_neg h]
theorem kron_two {a n : Int} (hn : n ≠ 0) (h : a % 2 = 0 ∧ n % 2 = 0) : kron a n = 0 := by
  unfold kron; rw [if_neg hn, if_pos h]
theorem sg_pos {a n : Int} (h : 0 < n) : sg a n = 1 := by unfold sg; rw [if_neg (by omega)]
theorem sg_pos' {a n : Int} (h : 0 < a) : sg a n = 1 := by unfold sg; rw [if_neg (by omega)]
theorem natAbs_odd {n : Int} (h : n % 2 = 1) : n.natAbs % 2 = 1 := by omega
theorem kron_oddE {a n : Int} (hn : 0 < n) (h : n % 2 = 1) : kron a n = jacI a n.natAbs := by
  rw [kron_def (by omega) (by omega), sg_pos hn, strip_of_odd (natAbs_odd h)]
  simp
theorem emod_mul_two (a b : Int) : (a * b) % 2 = (a % 2) * (b % 2) % 2 := Int.mul_emod _ _ _
theorem kron_mul_left {a b n : Int} (hn : 0 < n) : kron (a * b) n = kron a n * kron b n := by
  have hn0 : n ≠ 0 := by omega
  have e := emod_mul_two a b
  by_cases h : n % 2 = 1
  · rw [kron_oddE hn h, kron_oddE hn h, kron_oddE hn h, jacI_mul a b (natAbs_odd h)]
  · have hn2 : n % 2 = 0 := by omega
    by_cases ha : a % 2 = 0
    · rw [kron_two hn0 ⟨by rw [e, ha]; simp, hn2⟩, kron_two hn0 ⟨ha, hn2⟩, Int.zero_mul]
    · by_cases hb : b % 2 = 0
      · rw [kron_two hn0 ⟨by rw [e, hb]; simp, hn2⟩, kron_two (a := b) hn0 ⟨hb, hn2⟩, Int.mul_zero]
      · have ha1 : a % 2 = 1 := by omega
        have hb1 : b % 2 = 1 := by omega
        have hab : (a * b) % 2 = 1 := by rw [e, ha1, hb1]; rfl
        obtain ⟨_, ho, _⟩ := strip_parts (r := n.natAbs) (by omega)
        rw [kron_def hn0 (by omega), kron_def hn0 (by omega), kron_def hn0 (by omega), sg_pos hn, sg_pos hn, sg_pos hn, t8_mul ha1 hb1, jacI_mul a b ho, Int.mul_pow]
        grind
theorem jacI_pos {a : Int} (h : 0 < a) (n : Nat) : jacI a n = jac a.natAbs n := by unfold jacI; rw [if_neg (by omega), Int.one_mul]
theorem kron_mul_right {a b n : Int} (hn : 0 < n) (ha : a ≠ 0) (hb : b ≠ 0) : kron n (a * b) = kron n a * kron n b := by
  have hab0 : a * b ≠ 0 := Int.mul_ne_zero ha hb
  have e := emod_mul_two a b
  by_cases hbad : n % 2 = 0 ∧ (a * b) % 2 = 0
  · rw [kron_two hab0 hbad]
    by_cases h1 : a % 2 = 0
    · rw [kron_two ha ⟨hbad.1, h1⟩, Int.zero_mul]
    · have h2 : b % 2 = 0 := by
        rcases Int.emod_two_eq b with h | h
        · exact h
        · have : (a * b) % 2 = 1 := by rw [e, show a % 2 = 1 by omega, h]; rfl
          omega
      rw [kron_two (a := n) hb ⟨hbad.1, h2⟩, Int.mul_zero]
  · have h1 : ¬ (n % 2 = 0 ∧ a % 2 = 0) := fun h => hbad ⟨h.1, by rw [e, h.2]; simp⟩
    have h2 : ¬ (n % 2 = 0 ∧ b % 2 = 0) := fun h => hbad ⟨h.1, by rw [e, h.2]; simp⟩
    obtain ⟨_, o1, _⟩ := strip_parts (r := a.natAbs) (by omega)
    obtain ⟨_, o2, _⟩ := strip_parts (r := b.natAbs) (by omega)
    rw [kron_def hab0 hbad, kron_def ha h1, kron_def hb h2, sg_pos' hn, sg_pos' hn, sg_pos' hn, Int.natAbs_mul, strip_prod (by omega) (by omega)]
    simp only [jacI_pos hn]
    rw [jac_mul_all _ _ _ o1 o2, Int.pow_add]
    grind
/-- Reciprocity for odd positive numbers. -/
theorem kron_recip {a n : Int} (ha : 1 ≤ a) (hn : 1 ≤ n) (ha2 : a % 2 = 1) (hn2 : n % 2 = 1) :
    kron a n * kron n a = if Int.gcd a n ≠ 1 then 0 else if a % 4 = 3 ∧ n % 4 = 3 then -1 else 1 := by
  rw [kron_oddE (by omega) hn2, kron_oddE (by omega) ha2, jacI_pos (by omega), jacI_pos (by omega)]
  have hg : Int.gcd a n = Nat.gcd a.natAbs n.natAbs := rfl
  by_cases hc : Int.gcd a n = 1
  · rw [if_neg (by simpa using hc), jac_recip (natAbs_odd hn2) (natAbs_odd ha2)]
    have hj : jac n.natAbs a.natAbs = 1 ∨ jac n.natAbs a.natAbs = -1 := by
      unfold jac
      have hc' : Nat.gcd n.natAbs a.natAbs = 1 := by rw [Nat.gcd_comm]; exact hc
      rw [if_pos hc']
      split <;> simp
    by_cases h4 : a % 4 = 3 ∧ n % 4 = 3
    · rw [if_pos h4, if_pos (by omega)]
      rcases hj with h | h <;> rw [h] <;> rfl
    · rw [if_neg h4, if_neg (by omega)]
      rcases hj with h | h <;> rw [h] <;> rfl
  · rw [if_pos hc]
    have : jac a.natAbs n.natAbs = 0 := by unfold jac; rw [if_neg (by rw [← hg]; exact hc)]
    rw [this, Int.zero_mul]

/-- The product of f over 1, .., h. -/
def prodTo (f : Nat → Nat) : Nat → Nat
  | 0 => 1
  | h + 1 => prodTo f h * f (h + 1)
theorem prodTo_list (f : Nat → Nat) (h : Nat) : prodTo f h = prod ((List.range h).map fun i => f (i + 1)) := by
  induction h with
  | zero => rfl
  | succ h ih => simp [prodTo, List.range_succ, ih, prod_append, prod]
theorem prod_perm {l m : List Nat} (h : l.Perm m) : prod l = prod m := by
  induction h with
  | nil => rfl
  | cons x _ ih => simp only [prod, ih]
  | swap x y l => simp only [prod]; grind
  | trans _ _ h1 h2 => rw [h1, h2]
theorem prodTo_perm {h : Nat} {s : Nat → Nat} (hm : ∀ i, 1 ≤ i → i ≤ h → 1 ≤ s i ∧ s i ≤ h) (hi : ∀ i j, 1 ≤ i → i ≤ h → 1 ≤ j → j ≤ h → s i = s j → i = j) :
    prodTo s h = prodTo (fun i => i) h := by
  rw [prodTo_list, prodTo_list]
  refine prod_perm ?_
  have hn : ((List.range h).map fun i => s (i + 1)).Nodup := by
    rw [List.Nodup, List.pairwise_map]
    refine (List.nodup_range (n := h)).imp_of_mem ?_
    intro a b ha hb hab e
    rw [List.mem_range] at ha hb
    exact hab (by have := hi (a + 1) (b + 1) (by omega) (by omega) (by omega) (by omega) e; omega)
  have hn2 : ((List.range h).map fun i => i + 1).Nodup := by
    rw [List.Nodup, List.pairwise_map]
    refine (List.nodup_range (n := h)).imp ?_
    intro a b hab e
    exact hab (by omega)
  have hsub : ∀ x ∈ (List.range h).map (fun i => s (i + 1)), x ∈ (List.range h).map fun i => i + 1 := by
    intro x hx
    obtain ⟨i, hi', rfl⟩ := List.mem_map.1 hx
    rw [List.mem_range] at hi'
    obtain ⟨h1, h2⟩ := hm (i + 1) (by omega) (by omega)
    exact List.mem_map.2 ⟨s (i + 1) - 1, by rw [List.mem_range]; omega, by omega⟩
  rw [List.perm_ext_iff_of_nodup hn hn2]
  intro a
  refine ⟨hsub a, fun ha => Classical.byContradiction fun hna => ?_⟩
  have := List.Nodup.length_le_of_subset (l₁ := a :: (List.range h).map fun i => s (i + 1)) (l₂ := (List.range h).map fun i => i + 1) (List.nodup_cons.2 ⟨hna, hn⟩) (by
    intro x hx
    rcases List.mem_cons.1 hx with rfl | hx
    · exact ha
    · exact hsub x hx)
  simp at this
  omega
/-- Gauss: the powers, with signs, up to multiples of n. -/
theorem gauss_step {a n : Nat} (hn : 0 < n) : ∀ h : Nat, (n : Int) ∣ (a : Int) ^ h * (prodTo (fun i => i) h : Int) - (-1) ^ sumTo (fun i => ng n (a * i)) h * (prodTo (fun i => up n (a * i)) h : Int) := by
  intro h
  induction h with
  | zero => simp [prodTo, sumTo]
  | succ h ih =>
    simp only [prodTo, sumTo, Int.pow_succ, Int.natCast_mul, Int.pow_add]
    obtain ⟨t, ht⟩ := ih
    generalize (a : Int) ^ h = A at *
    generalize (prodTo (fun i => i) h : Int) = B at *
    generalize (-1 : Int) ^ sumTo (fun i => ng n (a * i)) h = C at *
    generalize (prodTo (fun i => up n (a * i)) h : Int) = D at *
    have e3 := Nat.div_add_mod (a * (h + 1)) n
    have hl := Nat.mod_lt (a * (h + 1)) hn
    have key : ∃ u : Int, (a : Int) * ((h + 1 : Nat) : Int) = (-1) ^ ng n (a * (h + 1)) * (up n (a * (h + 1)) : Int) + (n : Int) * u := by
      rcases up_rel n (a * (h + 1)) with ⟨e1, e2⟩ | ⟨e1, e2⟩
      · refine ⟨((a * (h + 1) / n : Nat) : Int), ?_⟩
        rw [e1, e2, Int.pow_zero, Int.one_mul, ← Int.natCast_mul, ← Int.natCast_mul]
        omega
      · refine ⟨((a * (h + 1) / n : Nat) : Int) + 1, ?_⟩
        rw [e1, e2, Int.mul_add, Int.mul_one, ← Int.natCast_mul, ← Int.natCast_mul]
        have : ((-1 : Int)) ^ 1 = -1 := rfl
        rw [this]
        omega
    obtain ⟨u, hu⟩ := key
    generalize (-1 : Int) ^ ng n (a * (h + 1)) = E at *
    generalize (up n (a * (h + 1)) : Int) = G at *
    refine ⟨t * ((a : Int) * ((h + 1 : Nat) : Int)) + C * D * u, ?_⟩
    have e1 : A * B = C * D + n * t := by omega
    have e2 : A * (a : Int) * (B * ((h + 1 : Nat) : Int)) = (A * B) * ((a : Int) * ((h + 1 : Nat) : Int)) := by grind
    rw [e2, e1]
    have e4 : (C * D + ↑n * t) * (↑a * ((h + 1 : Nat) : Int)) = C * D * (↑a * ((h + 1 : Nat) : Int)) + ↑n * (t * (↑a * ((h + 1 : Nat) : Int))) := by grind
    rw [e4]
    conv => lhs; arg 1; arg 1; rw [hu]
    grind
theorem prodTo_cop {p h : Nat} (hp : Pr p) (hh : h < p) : ¬ p ∣ prodTo (fun i => i) h := by
  induction h with
  | zero =>
    intro hd
    have := Nat.le_of_dvd (by decide) hd
    have := hp.1
    simp [prodTo] at *
    omega
  | succ h ih =>
    intro hd
    simp only [prodTo] at hd
    rcases hp.dvd_mul hd with h1 | h1
    · exact ih (by omega) h1
    · have := Nat.le_of_dvd (by omega) h1; omega
theorem neg_one_pow (k : Nat) : (-1 : Int) ^ k = if k % 2 = 0 then 1 else -1 := by
  induction k with
  | zero => rfl
  | succ k ih =>
    rw [Int.pow_succ, ih]
    by_cases h : k % 2 = 0
    · rw [if_pos h, if_neg (by omega)]; rfl
    · rw [if_neg h, if_pos (by omega)]; rfl
/-- Euler's criterion. -/
theorem euler {p a : Nat} (hp : Pr p) (h2 : p ≠ 2) : (p : Int) ∣ (a : Int) ^ (p / 2) - jac a p := by
  have hodd : p % 2 = 1 := by
    rcases Nat.mod_two_eq_zero_or_one p with h | h
    · exact absurd h (hp.div (by omega) (by have := hp.1; omega))
    · exact h
  by_cases hc : Nat.gcd a p = 1
  · have h1 := gauss_step (a := a) (n := p) (by have := hp.1; omega) (p / 2)
    have hn : p = 2 * (p / 2) + 1 := by omega
    rw [prodTo_perm (s := fun i => up p (a * i)) (fun i h1 h2 => up_range hn hc h1 h2) (up_inj hn hc)] at h1
    have hj : jac a p = (-1) ^ sumTo (fun i => ng p (a * i)) (p / 2) := by
      rw [neg_one_pow]
      unfold jac
      rw [if_pos hc]
      rfl
    rw [← hj, ← Int.sub_mul] at h1
    have hnd := prodTo_cop hp (h := p / 2) (by omega)
    rw [← Int.natAbs_dvd_natAbs, Int.natAbs_mul] at h1
    rw [← Int.natAbs_dvd_natAbs]
    rcases hp.dvd_mul h1 with h | h
    · exact h
    · exact absurd h hnd
  · have hd : p ∣ a := by
      refine Classical.byContradiction fun hnd => hc ?_
      rw [Nat.gcd_comm]
      exact hp.coprime hnd
    have hj : jac a p = 0 := by unfold jac; rw [if_neg hc]
    rw [hj, Int.sub_zero]
    obtain ⟨k, hk⟩ : ∃ k, p / 2 = k + 1 := ⟨p / 2 - 1, by have := hp.1; omega⟩
    rw [hk, Int.pow_succ]
    exact Int.dvd_mul_of_dvd_right (Int.natCast_dvd_natCast.2 hd)
/-- For any integer a. -/
theorem euler_int {p : Nat} {a : Int} (hp : Pr p) (h2 : p ≠ 2) : (p : Int) ∣ a ^ (p / 2) - jacI a p := by
  have hodd : p % 2 = 1 := by
    rcases Nat.mod_two_eq_zero_or_one p with h | h
    · exact absurd h (hp.div (by omega) (by have := hp.1; omega))
    · exact h
  have h := euler (a := a.natAbs) hp h2
  rcases Int.lt_or_le a 0 with ha | ha
  · have e : a = -1 * (a.natAbs : Int) := by omega
    have e1 : a ^ (p / 2) = (-1) ^ (p / 2) * (a.natAbs : Int) ^ (p / 2) := by
      conv => lhs; rw [e]
      rw [Int.mul_pow]
    have e2 : jacI a p = (-1) ^ (p / 2) * jac a.natAbs p := by
      unfold jacI
      rw [neg_one_pow]
      by_cases h4 : p % 4 = 3
      · rw [if_pos ⟨ha, h4⟩, if_neg (by omega)]
      · rw [if_neg (by omega), if_pos (by omega)]
    rw [e1, e2, ← Int.mul_sub]
    exact Int.dvd_mul_of_dvd_right h
  · rw [jacI, if_neg (by omega), Int.one_mul]
    have e : a = (a.natAbs : Int) := by omega
    conv => rhs; arg 1; rw [e]
    exact h
theorem jacI_mul_right (a : Int) {m n : Nat} (hm : m % 2 = 1) (hn : n % 2 = 1) : jacI a (m * n) = jacI a m * jacI a n := by
  unfold jacI
  rw [jac_mul_all _ _ _ hm hn]
  have e4 : m * n % 4 = (m % 4) * (n % 4) % 4 := Nat.mul_mod _ _ _
  have h1 : m % 4 = 1 ∨ m % 4 = 3 := by omega
  have h2 : n % 4 = 1 ∨ n % 4 = 3 := by omega
  by_cases ha : a < 0
  · rcases h1 with h1 | h1 <;> rcases h2 with h2 | h2 <;> rw [h1, h2] at e4 <;> simp [ha, h1, h2, e4, Int.mul_neg, Int.neg_mul]
  · simp [ha]
/-- The reference's symbol (a/2). -/
def val2 (a : Int) : Int := if a % 2 = 0 then 0 else t8 a

/-- The symbol at a prime. -/
def lg (a : Int) (p : Nat) : Int := if p = 2 then val2 a else jacI a p
/-- The product over a factorization. -/
def prodL (a : Int) : List (Nat × Nat) → Int
  | [] => 1
  | q :: F => lg a q.1 ^ q.2 * prodL a F
theorem prodL_append (a : Int) (F G : List (Nat × Nat)) : prodL a (F ++ G) = prodL a F * prodL a G := by
  induction F with
  | nil => simp [prodL]
  | cons q F ih => simp only [List.cons_append, prodL, ih]; rw [Int.mul_assoc]
theorem jacI_one (a : Int) : jacI a 1 = 1 := by
  unfold jacI
  rw [jac_one, if_neg (by omega)]; rfl
theorem jacI_pow (a : Int) {p : Nat} (hp : p % 2 = 1) (e : Nat) : jacI a (p ^ e) = jacI a p ^ e ∧ p ^ e % 2 = 1 := by
  induction e with
  | zero => exact ⟨by rw [Nat.pow_zero, Int.pow_zero, jacI_one], rfl⟩
  | succ e ih =>
    rw [Nat.pow_succ, Int.pow_succ, jacI_mul_right a ih.2 hp, ih.1]
    exact ⟨rfl, by rw [Nat.mul_mod, ih.2, hp]⟩
theorem prodL_odd (a : Int) : ∀ F : List (Nat × Nat), (∀ q ∈ F, q.1 % 2 = 1) → prodL a F = jacI a (prod (F.map fun p => p.1 ^ p.2)) ∧ prod (F.map fun p => p.1 ^ p.2) % 2 = 1 := by
  intro F
  induction F with
  | nil => intro _; exact ⟨(jacI_one a).symm, rfl⟩
  | cons q F ih =>
    intro h
    obtain ⟨i1, i2⟩ := ih (fun x hx => h x (by simp [hx]))
    have hq := h q (by simp)
    obtain ⟨j1, j2⟩ := jacI_pow a hq q.2
    simp only [List.map_cons, prod, prodL]
    rw [jacI_mul_right a j2 i2, i1, j1]
    refine ⟨?_, by rw [Nat.mul_mod, j2, i2]⟩
    unfold lg
    rw [if_neg (by omega)]
theorem pr_odd {p : Nat} (h : Pr p) (h3 : 3 ≤ p) : p % 2 = 1 := by
  rcases Nat.mod_two_eq_zero_or_one p with e | e
  · exact absurd e (h.div (by omega) (by omega))
  · exact e
/-- The Kronecker symbol is the product over the factorization. -/
theorem kron_prod {a n : Int} (hn : n ≠ 0) : kron a n = sg a n * prodL a (facs 2 n.natAbs) := by
  have hn1 : 1 ≤ n.natAbs := by omega
  obtain ⟨e, o, o1⟩ := strip_parts hn1
  have h3 := facs_is (strip n.natAbs 2 n.natAbs).2 3 (strip n.natAbs 2 n.natAbs).2 (by omega) (by omega) o1 (fun x x2 x3 => by
    have : x = 2 := by omega
    subst this; omega)
  rw [facs_two hn1, prodL_append, (prodL_odd a _ (fun q hq => pr_odd (h3.mem q hq).1 (h3.mem q hq).2.1)).1, h3.mul]
  have hpart : prodL a (part 2 (strip n.natAbs 2 n.natAbs).1) = val2 a ^ (strip n.natAbs 2 n.natAbs).1 := by
    unfold part
    split
    · simp [prodL, lg]
    · rename_i h
      rw [show (strip n.natAbs 2 n.natAbs).1 = 0 by omega, Int.pow_zero]
      rfl
  rw [hpart]
  by_cases hbad : a % 2 = 0 ∧ n % 2 = 0
  · rw [kron_two hn hbad]
    have hk : (strip n.natAbs 2 n.natAbs).1 ≠ 0 := fun h0 => by
      rw [h0, Nat.pow_zero, Nat.mul_one] at e
      omega
    obtain ⟨k, hk'⟩ : ∃ k, (strip n.natAbs 2 n.natAbs).1 = k + 1 := ⟨(strip n.natAbs 2 n.natAbs).1 - 1, by omega⟩
    unfold val2
    rw [if_pos hbad.1, hk', Int.pow_succ]
    simp
  · rw [kron_def hn hbad, Int.mul_assoc]
    by_cases ha : a % 2 = 0
    · have hodd : n.natAbs % 2 = 1 := by omega
      rw [strip_of_odd hodd, Int.pow_zero, Int.pow_zero]
    · have : val2 a = t8 a := by unfold val2; rw [if_neg ha]
      rw [this]
theorem lg_cases (a : Int) (p : Nat) : lg a p = 0 ∨ lg a p = 1 ∨ lg a p = -1 := by
  unfold lg
  split
  · unfold val2
    have := t8_cases a
    split
    · exact .inl rfl
    · omega
  · unfold jacI
    have := jac_cases a.natAbs p
    split <;> omega
/-- What the power tells. -/
theorem power_lg {a : Int} {p : Nat} (hp : Pr p) (h2 : p ≠ 2) : (a ^ (p / 2) % (p : Int) = (p : Int) - 1 → lg a p = -1) ∧ (a ^ (p / 2) % (p : Int) ≠ (p : Int) - 1 → lg a p = a ^ (p / 2) % (p : Int)) := by
  have h := euler_int (a := a) hp h2
  have hl := lg_cases a p
  have hp3 : 3 ≤ p := by have := hp.1; omega
  have e : lg a p = jacI a p := by unfold lg; rw [if_neg h2]
  rw [e] at hl ⊢
  have hm : a ^ (p / 2) % (p : Int) = jacI a p % (p : Int) := by
    obtain ⟨t, ht⟩ := h
    rw [show a ^ (p / 2) = jacI a p + (p : Int) * t by omega, Int.add_mul_emod_self_left]
  rw [hm]
  have m1 : (1 : Int) % (p : Int) = 1 := Int.emod_eq_of_lt (by omega) (by omega)
  have m0 : (-1 : Int) % (p : Int) = (p : Int) - 1 := by
    rw [show (-1 : Int) = ((p : Int) - 1) + (p : Int) * (-1) by omega, Int.add_mul_emod_self_left, Int.emod_eq_of_lt (by omega) (by omega)]
  rcases hl with h | h | h <;> rw [h]
  · rw [Int.zero_emod]; omega
  · rw [m1]; omega
  · rw [m0]; omega
theorem pow_cases {s : Int} (h : s = 0 ∨ s = 1 ∨ s = -1) (k : Nat) : s ^ k = 0 ∨ s ^ k = 1 ∨ s ^ k = -1 := by
  induction k with
  | zero => simp
  | succ k ih =>
    rw [Int.pow_succ]
    rcases ih with i | i | i <;> rcases h with j | j | j <;> rw [i, j] <;> decide
theorem prodL_cases (a : Int) (F : List (Nat × Nat)) : prodL a F = 0 ∨ prodL a F = 1 ∨ prodL a F = -1 := by
  induction F with
  | nil => exact .inr (.inl rfl)
  | cons q F ih =>
    simp only [prodL]
    rcases pow_cases (lg_cases a q.1) q.2 with i | i | i <;> rcases ih with j | j | j <;> rw [i, j] <;> decide
theorem prodL_take {a : Int} {F : List (Nat × Nat)} {k : Nat} (h : k < F.length) : prodL a (F.take (k + 1)) = prodL a (F.take k) * lg a F[k].1 ^ F[k].2 := by
  rw [List.take_succ_eq_append_getElem h, prodL_append]
  simp [prodL]
theorem tri_mul {x y : Int} (h : x = 0 ∨ x = 1 ∨ x = -1) (k : y = 0 ∨ y = 1 ∨ y = -1) : x * y = 0 ∨ x * y = 1 ∨ x * y = -1 := by
  rcases h with i | i | i <;> rcases k with j | j | j <;> rw [i, j] <;> decide
theorem fund_free {n : Nat} (hn : 1 ≤ n) : freeOf (facs 2 n) * (rootOf (facs 2 n) * rootOf (facs 2 n)) = n ∧ Sqf (freeOf (facs 2 n)) ∧ 1 ≤ freeOf (facs 2 n) ∧ 1 ≤ rootOf (facs 2 n) := by
  have h := facs_two_is hn
  have hpr : ∀ p ∈ facs 2 n, Pr p.1 := fun p hp => (h.mem p hp).1
  have hm := h.mul
  rw [parts_mul] at hm
  exact ⟨hm, free_sqf hpr h.asc, freeOf_pos hpr⟩
theorem sgn_mul {d : Int} : d = sgn d * (d.natAbs : Int) := by unfold sgn; split <;> omega
theorem sgn_cases (d : Int) : sgn d = 1 ∨ sgn d = -1 := by unfold sgn; split <;> omega
theorem sgn_of {s : Int} (hs : s = 1 ∨ s = -1) {a : Nat} (ha : 1 ≤ a) : sgn (s * (a : Int)) = s ∧ (s * (a : Int)).natAbs = a := by
  rcases hs with rfl | rfl
  · unfold sgn; split <;> omega
  · unfold sgn; split <;> omega
/-- In the second case the root is even. -/
theorem jac_two_pow (k n : Nat) (hn : n % 2 = 1) : jac (2 ^ k) n = two8 n ^ k := by
  induction k with
  | zero =>
    rw [Nat.pow_zero, Int.pow_zero]
    have h1 : jac (1 * 1) n = jac 1 n * jac 1 n := jac_mul 1 1 n hn
    have h2 : jac 1 n ≠ 0 := by
      unfold jac
      rw [if_pos (Nat.gcd_one_left n)]
      split <;> decide
    rw [Nat.mul_one] at h1
    rcases jac_cases 1 n with h | h | h
    · exact absurd h h2
    · exact h
    · rw [h] at h1; omega
  | succ k ih => rw [Nat.pow_succ, jac_mul _ _ _ hn, ih, jac_two hn, Int.pow_succ]
theorem jac_one_left {n : Nat} (hn : n % 2 = 1) : jac 1 n = 1 := by
  have := jac_two_pow 0 n hn
  simpa using this
theorem t8_abs {D : Int} (h : D % 4 = 1) : t8 D = two8 D.natAbs := by
  unfold t8 two8
  have : (D % 8 = 1 ∨ D % 8 = 7) ↔ (D.natAbs % 8 = 1 ∨ D.natAbs % 8 = 7) := by omega
  simp only [this]
/-- An odd discriminant: the symbol is the Jacobi symbol of n modulo |D|. -/
theorem kron_disc1 {D n : Int} (hD : D % 4 = 1) (hn : 0 < n) : kron D n = jac n.natAbs D.natAbs := by
  obtain ⟨e, o, o1⟩ := strip_parts (r := n.natAbs) (by omega)
  rw [kron_def (by omega) (by omega), sg_pos hn, Int.one_mul]
  generalize (strip n.natAbs 2 n.natAbs).1 = k at *
  generalize (strip n.natAbs 2 n.natAbs).2 = m at *
  have hDo : D.natAbs % 2 = 1 := by omega
  rw [e, jac_mul _ _ _ hDo, jac_two_pow _ _ hDo, t8_abs hD]
  have : jacI D m = jac m D.natAbs := by
    unfold jacI
    rw [jac_recip o hDo]
    rcases Int.lt_or_le D 0 with h | h
    · by_cases h4 : m % 4 = 3
      · rw [if_pos ⟨h, h4⟩, if_pos (by omega)]; grind
      · rw [if_neg (by omega), if_neg (by omega)]; grind
    · rw [if_neg (by omega), if_neg (by omega)]; grind
  rw [this, Int.mul_comm]
/-- The symbol of an odd number at odd n hangs on n modulo 4 and modulo it. -/
theorem jacI_congr {m : Int} {n n' : Nat} (hm : m % 2 = 1) (h : n % 2 = 1) (h' : n' % 2 = 1) (h4 : n % 4 = n' % 4) (hmod : n % m.natAbs = n' % m.natAbs) : jacI m n = jacI m n' := by
  unfold jacI
  have hmo : m.natAbs % 2 = 1 := by omega
  rw [jac_recip h hmo, jac_recip h' hmo, jac_congr hmod, h4]
theorem jacI_four (m : Int) {n : Nat} (h : n % 2 = 1) : jacI (m * 4) n = jacI m n := by
  rw [show m * 4 = m * (2 * 2) by rfl, jacI_mul _ _ h, jacI_mul _ _ h]
  have e : jacI 2 n = two8 n := by
    rw [jacI_pos (by omega)]
    exact jac_two h
  rw [e]
  rcases two8_cases n with h | h <;> rw [h] <;> simp
theorem period {D n k : Int} {a : Nat} {s : Int} (hs : s = 1 ∨ s = -1) (ha : Sqf a) (ha1 : 1 ≤ a) (hn : 0 < n) (hk : 0 ≤ k)
    (h : (s * (a : Int) % 4 = 1 ∧ D = s * (a : Int)) ∨ (s * (a : Int) % 4 ≠ 1 ∧ D = s * (a : Int) * 4)) : kron D n = kron D (n + k * (D.natAbs : Int)) := by
  obtain ⟨g1, g2⟩ := sgn_of hs ha1
  have hkD : 0 ≤ k * (D.natAbs : Int) := Int.mul_nonneg hk (by omega)
  rcases h with ⟨h1, rfl⟩ | ⟨h1, rfl⟩
  · rw [kron_disc1 h1 hn, kron_disc1 h1 (by omega)]
    refine jac_congr ?_
    rw [g2] at hkD ⊢
    obtain ⟨n', rfl⟩ : ∃ n' : Nat, n = (n' : Int) := ⟨n.toNat, by omega⟩
    obtain ⟨k', rfl⟩ : ∃ k' : Nat, k = (k' : Int) := ⟨k.toNat, by omega⟩
    have e : ((n' : Int) + (k' : Int) * (a : Int)).natAbs = n' + a * k' := by
      rw [show (n' : Int) + (k' : Int) * (a : Int) = ((n' + a * k' : Nat) : Int) by rw [Int.natCast_add, Int.natCast_mul]; grind]
      rfl
    rw [e, Nat.add_mul_mod_self_left]
    rfl
  · have hD : (s * (a : Int) * 4).natAbs = a * 4 := by rw [Int.natAbs_mul, g2]; rfl
    rw [hD] at hkD ⊢
    obtain ⟨n', rfl⟩ : ∃ n' : Nat, n = (n' : Int) := ⟨n.toNat, by omega⟩
    obtain ⟨k', rfl⟩ : ∃ k' : Nat, k = (k' : Int) := ⟨k.toNat, by omega⟩
    have e : (n' : Int) + (k' : Int) * ((a * 4 : Nat) : Int) = ((n' + 4 * (a * k') : Nat) : Int) := by
      rw [Int.natCast_add, Int.natCast_mul, Int.natCast_mul, Int.natCast_mul]; grind
    rw [e]
    by_cases hodd : n' % 2 = 1
    · have ho2 : (n' + 4 * (a * k')) % 2 = 1 := by omega
      rw [kron_oddE (by omega) (by omega), kron_oddE (by omega) (by omega), Int.natAbs_natCast, Int.natAbs_natCast, jacI_four _ hodd, jacI_four _ ho2]
      have hsq : a % 4 ≠ 0 := fun h => by
        have := ha 2 (Nat.dvd_of_mod_eq_zero (by simpa using h))
        omega
      by_cases hao : a % 2 = 1
      · refine jacI_congr (by rcases hs with rfl | rfl <;> omega) hodd ho2 (by omega) ?_
        rw [g2, show n' + 4 * (a * k') = n' + a * (4 * k') by grind, Nat.add_mul_mod_self_left]
      · obtain ⟨c, rfl⟩ : ∃ c, a = 2 * c := ⟨a / 2, by omega⟩
        have hc : c % 2 = 1 := by omega
        have e2 : s * ((2 * c : Nat) : Int) = 2 * (s * (c : Int)) := by rw [Int.natCast_mul]; grind
        obtain ⟨_, gc⟩ := sgn_of hs (a := c) (by omega)
        rw [e2, jacI_mul _ _ hodd, jacI_mul _ _ ho2]
        have t : ∀ m : Nat, m % 2 = 1 → jacI 2 m = two8 m := fun m hm => by
          rw [jacI_pos (by omega)]
          exact jac_two hm
        rw [t _ hodd, t _ ho2]
        have e8 : two8 (n' + 4 * (2 * c * k')) = two8 n' := by
          unfold two8
          rw [show n' + 4 * (2 * c * k') = n' + 8 * (c * k') by grind, Nat.add_mul_mod_self_left]
        rw [e8]
        congr 1
        refine jacI_congr (by rcases hs with rfl | rfl <;> omega) hodd ho2 (by omega) ?_
        rw [gc, show n' + 4 * (2 * c * k') = n' + c * (8 * k') by grind, Nat.add_mul_mod_self_left]
    · rw [kron_two (by omega) (by omega), kron_two (by omega) (by omega)]
theorem period_law {d D f n k : Int} (hd : d ≠ 0) (h : FundIs d D f) (hn : 0 < n) (hk : 0 ≤ k) : kron D n = kron D (n + k * (D.natAbs : Int)) := by
  obtain ⟨_, hsq, ha, _⟩ := fund_free (n := d.natAbs) (by omega)
  refine period (sgn_cases d) hsq ha hn hk ?_
  rcases h with ⟨h1, h2, _⟩ | ⟨h1, h2, _⟩
  · exact .inl ⟨h1, h2⟩
  · exact .inr ⟨h1, h2⟩


theorem fund_self {D : Int} (h : fdB D = true) : D ≠ 0 ∧ ∃ f, FundIs D D f := by
  unfold fdB at h
  simp only [Bool.and_eq_true, decide_eq_true_eq] at h
  obtain ⟨⟨h0, _⟩, h2⟩ := h
  refine ⟨h0, ?_⟩
  have e : sgnD D = sgn D := rfl
  unfold funV at h2
  rw [e] at h2
  by_cases h3 : sgn D * (freeOf (facs 2 D.natAbs) : Int) % 4 = 1
  · rw [if_pos h3] at h2
    exact ⟨_, .inl ⟨h3, h2.symm, rfl⟩⟩
  · rw [if_neg h3] at h2
    exact ⟨_, .inr ⟨h3, h2.symm, rfl⟩⟩
/-- The symbol at a number is that at its residue modulo a multiple N of D, plus N. -/
theorem kron_chi {D : Int} {N a : Nat} (h : fdB D = true) (hN : 1 ≤ N) (hm : (N : Int) % D = 0) (ha : 1 ≤ a) : kron D ((a % N + N : Nat) : Int) = kron D a := by
  obtain ⟨h0, f, hf⟩ := fund_self h
  have hd : D.natAbs ∣ N := by
    have := Int.natAbs_dvd_natAbs.2 (Int.dvd_of_emod_eq_zero hm)
    simpa using this
  obtain ⟨c, hc⟩ := hd
  have hr := Nat.mod_lt a hN
  have hdm := Nat.div_add_mod a N
  by_cases hz : a % N = 0
  · have h1 := period_law (n := (N : Int)) (k := ((c * (a / N - 1) : Nat) : Int)) h0 hf (by omega) (by omega)
    have h2 : (N : Int) + ((c * (a / N - 1) : Nat) : Int) * (D.natAbs : Int) = (a : Int) := by
      have e1 : N * (a / N) = a := by omega
      have e2 : 1 ≤ a / N := by
        rcases Nat.eq_zero_or_pos (a / N) with e | e
        · rw [e] at e1; omega
        · exact e
      have e3 : N + c * (a / N - 1) * D.natAbs = a := by
        rw [Nat.mul_right_comm, Nat.mul_comm c, ← hc, Nat.mul_sub, e1, Nat.mul_one]
        have : N ≤ a := by rw [← e1]; exact Nat.le_mul_of_pos_right _ e2
        omega
      rw [← Int.natCast_mul, ← Int.natCast_add, e3]
    rw [hz, Nat.zero_add, h1, h2]
  · have h1 := period_law (n := ((a % N : Nat) : Int)) (k := (c : Int)) h0 hf (by omega) (by omega)
    have h3 := period_law (n := ((a % N : Nat) : Int)) (k := ((c * (a / N) : Nat) : Int)) h0 hf (by omega) (by omega)
    have e1 : ((a % N : Nat) : Int) + (c : Int) * (D.natAbs : Int) = ((a % N + N : Nat) : Int) := by
      rw [← Int.natCast_mul, ← Int.natCast_add, Nat.mul_comm c, ← hc]
    have e2 : ((a % N : Nat) : Int) + ((c * (a / N) : Nat) : Int) * (D.natAbs : Int) = (a : Int) := by
      rw [← Int.natCast_mul, ← Int.natCast_add]
      congr 1
      rw [Nat.mul_right_comm, Nat.mul_comm c, ← hc]; omega
    rw [← e1, ← h1, h3, e2]
end Go.Proofs.Ythkhdbngeifenaa
