/- Plain mathematics: the number of points of the projective line. -/
import Derived.Test.YtgnekmaonnjfkaaArM
import Derived.Test.YtgnekmaonnjfkaaIxM
namespace Go.Proofs.Ytgnekmaonnjfkaa
set_option linter.unusedVariables false

/-- The product over the primes, as the code reckons it. -/
def psiL : List (Nat × Nat) → Nat → Nat
  | [], x => x
  | f :: l, x => psiL l (x + x / f.1)
theorem psiL_append : ∀ (l m : List (Nat × Nat)) (x : Nat), psiL (l ++ m) x = psiL m (psiL l x)
  | [], _, _ => rfl
  | f :: l, m, x => psiL_append l m _
def psiN (n : Nat) : Nat := psiL (facs 2 n) n
/-- Whether p is a prime, as the reference finds it, up to q. -/
def prQ (p q : Nat) : Bool := (List.range q).all fun t => decide (t < 2) || p % t != 0
theorem prQ_succ (p q : Nat) : prQ p (q + 1) = (prQ p q && (decide (q < 2) || p % q != 0)) := by unfold prQ; rw [List.range_succ, List.all_append]; simp
/-- The product over the primes up to p, as the reference reckons it. -/
def rps (n : Nat) : Nat → Nat
  | 0 => n
  | p + 1 => if p + 1 < 2 then n else if (n % (p + 1) == 0 && prQ (p + 1) (p + 1)) = true then rps n p / (p + 1) * (p + 2) else rps n p
theorem rps_one (n : Nat) : rps n 1 = n := rfl
theorem rps_bd (n : Nat) : ∀ p, 1 ≤ p → 2 * rps n p ≤ n * (p + 1)
  | 0, h => absurd h (by decide)
  | 1, _ => by rw [rps_one]; omega
  | p + 2, _ => by
    have ih := rps_bd n (p + 1) (by omega)
    unfold rps
    rw [if_neg (by omega)]
    split
    · generalize rps n (p + 1) = x at *
      have h1 : 2 * (x / (p + 1 + 1)) ≤ n := by
        have h2 := Nat.div_mul_le_self x (p + 1 + 1)
        have h3 : 2 * (x / (p + 1 + 1)) * (p + 1 + 1) ≤ n * (p + 1 + 1) := by rw [Nat.mul_assoc]; omega
        exact Nat.le_of_mul_le_mul_right h3 (by omega)
      rw [← Nat.mul_assoc]
      exact Nat.mul_le_mul_right _ h1
    · have : n * (p + 1 + 1) ≤ n * (p + 2 + 1) := Nat.mul_le_mul_left _ (by omega)
      omega
/-- The normal forms of a row, told apart by the units that fix u alone. -/
def fastB (n u : Nat) (F : List Nat) (v : Nat) : Bool := Nat.gcd (Nat.gcd u v) n == 1 && F.all fun t => decide (v ≤ t * v % n)
theorem fast_eq {n u v : Nat} (hu1 : u < n) (hu : u = 0 ∨ u ∣ n) (hv : v < n) : fastB n u (fixN n u) v = ptB n u v := by
  have key : fastB n u (fixN n u) v = true ↔ ptB n u v = true := by
    rw [ptB_all]
    unfold fastB
    rw [Bool.and_eq_true, beq_iff_eq, List.all_eq_true]
    refine ⟨fun ⟨h1, h2⟩ => ⟨h1, fun s hs hg => ?_⟩, fun ⟨h1, h2⟩ => ⟨h1, fun t ht => ?_⟩⟩
    · by_cases he : s * u % n = u
      · have := h2 s (mem_fix.2 ⟨⟨hs, hg⟩, he⟩)
        exact .inr ⟨he, by simpa using this⟩
      · refine .inl ?_
        rcases hu with e | hd
        · rw [e, Nat.mul_zero, Nat.zero_mod] at he; exact absurd rfl he
        · have hdv : u ∣ s * u % n := (Nat.dvd_mod_iff hd).2 (Nat.dvd_mul_left u s)
          by_cases h0 : s * u % n = 0
          · exfalso
            have hnu : n ∣ u := (Nat.Coprime.dvd_of_dvd_mul_left (show Nat.Coprime n s by rw [Nat.Coprime, Nat.gcd_comm]; exact hg) (Nat.dvd_of_mod_eq_zero h0))
            rcases Nat.eq_zero_or_pos u with e | e
            · exact he (by rw [h0, e])
            · exact absurd (Nat.le_of_dvd e hnu) (by omega)
          · have := Nat.le_of_dvd (Nat.pos_of_ne_zero h0) hdv
            omega
    · obtain ⟨⟨h3, h4⟩, h5⟩ := mem_fix.1 ht
      have := h2 t h3 h4
      simp
      omega
  cases h1 : fastB n u (fixN n u) v <;> cases h2 : ptB n u v <;> simp_all
def rowN (n u : Nat) : Nat := if (u == 0 || n % u == 0) = true then (let F := fixN n u; ((List.range n).filter (fastB n u F)).length) else 0
theorem rowN_eq {n u : Nat} (n1 : 1 ≤ n) (n2 : n ≤ 120) (hu1 : u < n) : rowN n u = (row n u).length := by
  unfold rowN
  by_cases h : u = 0 ∨ u ∣ n
  · rw [if_pos (by rcases h with h | h; simp [h]; rw [Nat.mod_eq_zero_of_dvd h]; simp)]
    show ((List.range n).filter (fastB n u (fixN n u))).length = ((List.range n).filter (ptB n u)).length
    congr 1
    exact List.filter_congr fun v hv => fast_eq hu1 h (List.mem_range.1 hv)
  · rw [row_no n1 n2 hu1 h, if_neg]
    · rfl
    · intro hc
      rw [Bool.or_eq_true, beq_iff_eq, beq_iff_eq] at hc
      rcases hc with hc | hc
      · exact h (.inl hc)
      · exact h (.inr (Nat.dvd_of_mod_eq_zero hc))
def cntU (n : Nat) : Nat → Nat
  | 0 => 0
  | u + 1 => cntU n u + rowN n u
theorem cntU_eq {n : Nat} (n1 : 1 ≤ n) (n2 : n ≤ 120) : ∀ u, u ≤ n → cntU n u = (ptu n u).length
  | 0, _ => rfl
  | u + 1, h => by rw [cntU, cntU_eq n1 n2 u (by omega), rowN_eq n1 n2 (by omega), ptu_succ, List.length_append, List.length_map]
def cntOk (n : Nat) : Bool := n == 0 || (psiN n == rps n n && cntU n n == psiN n && (List.range ((facs 2 n).length + 1)).all (fun k => decide (psiL ((facs 2 n).take k) n ≤ 1000)) && (facs 2 n).all (fun f => decide (2 ≤ f.1) && decide (f.1 ≤ 120)) && decide ((facs 2 n).length ≤ 10))
theorem cnt_a : (List.range 60).all cntOk = true := by decide +kernel
theorem cnt_b : (List.range 35).all (fun k => cntOk (60 + k)) = true := by decide +kernel
theorem cnt_c : (List.range 26).all (fun k => cntOk (95 + k)) = true := by decide +kernel
theorem cnt_all {n : Nat} (n2 : n ≤ 120) : cntOk n = true := by
  by_cases h1 : n < 60
  · exact List.all_eq_true.1 cnt_a n (List.mem_range.2 h1)
  · by_cases h2 : n < 95
    · have := List.all_eq_true.1 cnt_b (n - 60) (List.mem_range.2 (by omega))
      rwa [show 60 + (n - 60) = n by omega] at this
    · have := List.all_eq_true.1 cnt_c (n - 95) (List.mem_range.2 (by omega))
      rwa [show 95 + (n - 95) = n by omega] at this
structure CntF (n : Nat) : Prop where
  ref : psiN n = rps n n
  len : (pts n).length = psiN n
  bd : ∀ k, k ≤ (facs 2 n).length → psiL ((facs 2 n).take k) n ≤ 1000
  p2 : ∀ f ∈ facs 2 n, 2 ≤ f.1 ∧ f.1 ≤ 120
  fl : (facs 2 n).length ≤ 10
theorem cnt_of {n : Nat} (n1 : 1 ≤ n) (n2 : n ≤ 120) : CntF n := by
  have h := cnt_all n2
  unfold cntOk at h
  rw [Bool.or_eq_true] at h
  rcases h with h | h
  · simp at h; omega
  · simp only [Bool.and_eq_true, beq_iff_eq, List.all_eq_true, List.mem_range, decide_eq_true_eq] at h
    obtain ⟨⟨⟨⟨h1, h2⟩, h3⟩, h4⟩, h5⟩ := h
    exact ⟨h1, by rw [← ptu_pts, ← cntU_eq n1 n2 n (Nat.le_refl _)]; exact h2, fun k hk => h3 k (by omega), fun f hf => h4 f hf, h5⟩
end Go.Proofs.Ytgnekmaonnjfkaa
