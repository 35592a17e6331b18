/- Plain mathematics: the list of the cusps, reckoned; the widths sum to the index. -/
import Derived.Test.YtfojlanjhdifoaaLst0L
namespace Go.Proofs.Ytfojlanjhdifoaa
open Go.RowKit
set_option linter.unusedVariables false

def psiL : List (Nat × Nat) → Nat → Nat
  | [], x => x
  | f :: l, x => psiL l (x + x / f.1)
def phiL : List (Nat × Nat) → Nat → Nat
  | [], x => x
  | f :: l, x => phiL l (x - x / f.1)
theorem psiL_append : ∀ (l m : List (Nat × Nat)) (x : Nat), psiL (l ++ m) x = psiL m (psiL l x)
  | [], _, _ => rfl
  | f :: l, m, x => psiL_append l m _
theorem phiL_append : ∀ (l m : List (Nat × Nat)) (x : Nat), phiL (l ++ m) x = phiL m (phiL l x)
  | [], _, _ => rfl
  | f :: l, m, x => phiL_append l m _
def psiN (n : Nat) : Nat := psiL (facs 2 n) n
def phiN (n : Nat) : Nat := phiL (facs 2 n) n
/-- The divisors, ascending. -/
def divs (n : Nat) : List Nat := (List.range (n + 1)).filter fun d => decide (1 ≤ d) && n % d == 0
theorem mem_divs {n x : Nat} (hn : 1 ≤ n) : x ∈ divs n ↔ x ∣ n := by
  unfold divs
  rw [List.mem_filter, List.mem_range, Bool.and_eq_true, decide_eq_true_eq, beq_iff_eq]
  constructor
  · rintro ⟨_, _, h⟩; exact Nat.dvd_of_mod_eq_zero h
  · intro h
    have := Nat.le_of_dvd hn h
    have := Nat.pos_of_dvd_of_pos h hn
    exact ⟨by omega, this, Nat.mod_eq_zero_of_dvd h⟩
theorem sorted_divs {n : Nat} {M : List Nat} (h : DivL n M) (hn : 1 ≤ n) : sorted M = divs n :=
  asc_eq (sorted_asc h.nd) (List.Pairwise.filter _ List.pairwise_lt_range) fun x => ((sorted_perm M).mem_iff.trans (h.mem x)).trans (mem_divs hn).symm
/-- The cusps of Gamma0(n) in the order of the list. -/
def L0 (n : Nat) : List (Int × Int) := outL n (divs n)
/-- The same search, its marks a list. -/
def st2 (d g : Nat) : Nat → List Nat × Nat
  | 0 => ([], 0)
  | t + 1 => match st2 d g t with
    | (s, k) => if (Nat.gcd (t + 1) d == 1 && !(s.contains ((t + 1) % g))) = true then ((t + 1) % g :: s, k + 1) else (s, k)
theorem st2_eq (d g : Nat) : ∀ t, (∀ j, (st d g t).1 j = (st2 d g t).1.contains j) ∧ (st d g t).2.length = (st2 d g t).2
  | 0 => ⟨fun j => by simp [st, st2], by simp [st, st2]⟩
  | t + 1 => by
    obtain ⟨h1, h2⟩ := st2_eq d g t
    rw [st2]
    generalize st2 d g t = S at *
    obtain ⟨s, k⟩ := S
    by_cases h : Nat.gcd (t + 1) d = 1 ∧ (st d g t).1 ((t + 1) % g) = false
    · obtain ⟨e1, e2⟩ := st_yes h.1 h.2
      have hc : (Nat.gcd (t + 1) d == 1 && !(s.contains ((t + 1) % g))) = true := by
        rw [Bool.and_eq_true, beq_iff_eq]; exact ⟨h.1, by rw [← h1, h.2]; rfl⟩
      simp only [if_pos hc]
      rw [e1, e2]
      refine ⟨fun j => ?_, by rw [List.length_append, h2]; rfl⟩
      rw [List.contains_cons]
      show (if j = (t + 1) % g then true else (st d g t).1 j) = _
      by_cases hj : j = (t + 1) % g
      · rw [if_pos hj, hj]; simp
      · rw [if_neg hj, h1]
        have : (j == (t + 1) % g) = false := by rw [beq_eq_false_iff_ne]; exact hj
        rw [this, Bool.false_or]
    · have hc : ¬ (Nat.gcd (t + 1) d == 1 && !(s.contains ((t + 1) % g))) = true := by
        rw [Bool.and_eq_true, beq_iff_eq]
        rintro ⟨a, b⟩
        refine h ⟨a, ?_⟩
        rw [h1]; simpa using b
      simp only [if_neg hc]
      rw [st_no h]
      exact ⟨h1, h2⟩
def wid (n d : Nat) : Nat := n / Nat.gcd n (d * d)
/-- The sum of the widths over a list. -/
def wsum (n : Nat) : List (Int × Int) → Nat
  | [] => 0
  | c :: l => wid n c.2.toNat + wsum n l
theorem wsum_append (n : Nat) : ∀ l m, wsum n (l ++ m) = wsum n l + wsum n m
  | [], m => by simp [wsum]
  | c :: l, m => by rw [List.cons_append, wsum, wsum_append n l m, wsum]; omega
theorem st_den (d g : Nat) : ∀ t c, c ∈ (st d g t).2 → c.2 = d ∧ ∃ p : Nat, c.1 = p ∧ 1 ≤ p ∧ p ≤ t ∧ Nat.gcd p d = 1
  | 0, c, h => by simp [st] at h
  | t + 1, c, h => by
    by_cases hc : Nat.gcd (t + 1) d = 1 ∧ (st d g t).1 ((t + 1) % g) = false
    · rw [(st_yes hc.1 hc.2).1, List.mem_append] at h
      rcases h with h | h
      · obtain ⟨h1, p, h2, h3, h4, h5⟩ := st_den d g t c h
        exact ⟨h1, p, h2, h3, by omega, h5⟩
      · rw [List.mem_singleton] at h
        subst h
        exact ⟨rfl, t + 1, rfl, by omega, Nat.le_refl _, hc.1⟩
    · rw [st_no hc] at h
      obtain ⟨h1, p, h2, h3, h4, h5⟩ := st_den d g t c h
      exact ⟨h1, p, h2, h3, by omega, h5⟩
theorem wsum_den (n d : Nat) : ∀ l : List (Int × Int), (∀ c ∈ l, c.2 = d) → wsum n l = l.length * wid n d
  | [], _ => by simp [wsum]
  | c :: l, h => by
    rw [wsum, wsum_den n d l (fun c hc => h c (List.mem_cons_of_mem _ hc)), h c (List.mem_cons_self ..), Int.toNat_natCast, List.length_cons, Nat.succ_mul]
    omega
def wtot (n : Nat) : List Nat → Nat
  | [] => 0
  | d :: l => (st2 d (Nat.gcd d (n / d)) d).2 * wid n d + wtot n l
theorem wtot_eq (n : Nat) : ∀ D, wsum n (outL n D) = wtot n D
  | [] => rfl
  | d :: D => by
    have : outL n (d :: D) = outD n d ++ outL n D := by unfold outL; simp
    rw [this, wsum_append, wtot_eq n D, wtot, outD, wsum_den n d _ (fun c hc => (st_den _ _ _ c hc).1), (st2_eq d _ d).2]
def widOk (n : Nat) : Bool := n == 0 || (wtot n (divs n) == psiN n && (List.range ((facs 2 n).length + 1)).all (fun k => decide (psiL ((facs 2 n).take k) n ≤ 1000)) && (facs 2 n).all (fun f => decide (2 ≤ f.1) && decide (f.1 ≤ 120)) && decide ((facs 2 n).length ≤ 10))
theorem wid_a : (List.range 60).all widOk = true := by decide +kernel
theorem wid_b : (List.range 61).all (fun k => widOk (60 + k)) = true := by decide +kernel
theorem wid_all {n : Nat} (n2 : n ≤ 120) : widOk n = true := by
  by_cases h1 : n < 60
  · exact List.all_eq_true.1 wid_a n (List.mem_range.2 h1)
  · have := List.all_eq_true.1 wid_b (n - 60) (List.mem_range.2 (by omega))
    rwa [show 60 + (n - 60) = n by omega] at this
structure WidF (n : Nat) : Prop where
  sum : wsum n (L0 n) = psiN n
  bd : ∀ k, k ≤ (facs 2 n).length → psiL ((facs 2 n).take k) n ≤ 1000
  p2 : ∀ f ∈ facs 2 n, 2 ≤ f.1 ∧ f.1 ≤ 120
  fl : (facs 2 n).length ≤ 10
theorem wid_of {n : Nat} (n1 : 1 ≤ n) (n2 : n ≤ 120) : WidF n := by
  have h := wid_all n2
  unfold widOk at h
  rw [Bool.or_eq_true] at h
  rcases h with h | h
  · simp at h; omega
  · simp only [Bool.and_eq_true, beq_iff_eq, List.all_eq_true, List.mem_range, decide_eq_true_eq] at h
    obtain ⟨⟨⟨h1, h3⟩, h4⟩, h5⟩ := h
    exact ⟨by unfold L0; rw [wtot_eq]; exact h1, fun k hk => h3 k (by omega), fun f hf => h4 f hf, h5⟩
end Go.Proofs.Ytfojlanjhdifoaa
