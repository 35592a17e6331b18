/- A prime has a primitive root. -/
import Derived.Test.YtoeailhcobbhjaaOrdLoop
namespace Go.Proofs.Ytoeailhcobbhjaa
open Go.RowKit

/-- The value of a polynomial, coefficients from the constant up. -/
def ev : List Int → Int → Int
  | [], _ => 0
  | c :: l, x => c + x * ev l x
/-- f(x) - f(a) = (x - a) q(x), with the leading coefficient of f. -/
theorem ev_div (a : Int) : ∀ l : List Int, l ≠ [] → ∃ q : List Int, q.length + 1 = l.length ∧ (∀ x, ev l x - ev l a = (x - a) * ev q x) ∧ (q ≠ [] → q.getLast? = l.getLast?) := by
  intro l
  induction l with
  | nil => intro h; exact absurd rfl h
  | cons c l ih =>
    intro _
    by_cases hl : l = []
    · subst hl
      exact ⟨[], rfl, fun x => by simp [ev], fun h => absurd rfl h⟩
    · obtain ⟨q, h1, h2, h3⟩ := ih hl
      have hz : ∀ (l q : List Int), q.length + 1 = l.length → ∀ x, ev (l.zipWith (fun u v => u + a * v) (q ++ [0])) x = ev l x + a * ev q x := by
        intro l
        induction l with
        | nil => intro q h; simp at h
        | cons d l ih =>
          intro q h x
          cases q with
          | nil =>
            have : l = [] := by simpa using h
            subst this
            simp [ev]
          | cons e q =>
            simp only [List.cons_append, List.zipWith_cons_cons, ev]
            rw [ih q (by simpa using h) x]
            grind
      refine ⟨l.zipWith (fun u v => u + a * v) (q ++ [0]), ?_, fun x => ?_, fun _ => ?_⟩
      · rw [List.length_zipWith, List.length_append]; simp; omega
      · rw [hz l q h1 x]
        simp only [ev]
        have := h2 x
        grind
      · have hlen : (l.zipWith (fun u v => u + a * v) (q ++ [0])).length = l.length := by rw [List.length_zipWith, List.length_append]; simp; omega
        rw [List.getLast?_cons]
        rw [List.getLast?_eq_getElem?, List.getLast?_eq_getElem?, hlen]
        have hpos : 0 < l.length := List.length_pos_iff.2 hl
        rw [List.getElem?_zipWith, List.getElem?_eq_getElem (by omega), List.getElem?_append_right (by omega)]
        rw [show l.length - 1 - q.length = 0 by omega]
        simp
/-- A polynomial with more roots than its degree modulo p: p divides its leading coefficient. -/
theorem many_roots {p : Nat} (hp : Pr p) : ∀ (xs : List Int) (l : List Int), l ≠ [] → l.length ≤ xs.length → xs.Pairwise (fun x y => ¬ (p : Int) ∣ y - x) → (∀ x ∈ xs, (p : Int) ∣ ev l x) → ∀ c, l.getLast? = some c → (p : Int) ∣ c := by
  intro xs
  induction xs with
  | nil => intro l h1 h2; exact absurd (List.eq_nil_of_length_eq_zero (by simpa using h2)) h1
  | cons a xs ih =>
    intro l h1 h2 h3 h4 c hc
    rw [List.pairwise_cons] at h3
    obtain ⟨q, k1, k2, k3⟩ := ev_div a l h1
    by_cases hq : q = []
    · subst hq
      match l, k1 with
      | [d], _ =>
        simp at hc
        subst hc
        have := h4 a (by simp)
        simpa [ev] using this
    · refine ih q hq (by simp at h2; omega) h3.2 (fun x hx => ?_) c ((k3 hq).trans hc)
      have hd : (p : Int) ∣ (x - a) * ev q x := by
        rw [← k2 x]
        exact Int.dvd_sub (h4 x (by simp [hx])) (h4 a (by simp))
      exact (pr_int hp hd).resolve_left (h3.1 x hx)
theorem ev_pow (d : Nat) (x : Int) : ev (List.replicate d 0 ++ [1]) x = x ^ d := by
  induction d with
  | zero => simp [ev]
  | succ d ih => rw [List.replicate_succ, List.cons_append, ev, ih, Int.pow_succ]; grind
/-- Not every residue is a root of x^d - 1 for small d. -/
theorem not_root {p d : Nat} (hp : Pr p) (hd : 1 ≤ d) (hd2 : d < p - 1) : ∃ c : Nat, 1 ≤ c ∧ c < p ∧ ¬ (p : Int) ∣ (c : Int) ^ d - 1 := by
  refine Classical.byContradiction fun hno => ?_
  have hall : ∀ c : Nat, 1 ≤ c → c < p → (p : Int) ∣ (c : Int) ^ d - 1 := fun c h1 h2 => Classical.byContradiction fun h => hno ⟨c, h1, h2, h⟩
  obtain ⟨e, rfl⟩ : ∃ e, d = e + 1 := ⟨d - 1, by omega⟩
  have h := many_roots hp ((List.range (p - 1)).map fun i => ((i + 1 : Nat) : Int)) (-1 :: (List.replicate e 0 ++ [1])) (by simp) (by simp; omega) ?_ ?_ 1 (by rw [← List.cons_append, List.getLast?_append]; simp)
  · have := Int.ofNat_dvd_left.1 h
    have := Nat.le_of_dvd (by simp) this
    have := hp.1
    simp at *
    omega
  · rw [List.pairwise_map]
    refine List.Pairwise.imp_of_mem (fun {x y} hx hy hxy => ?_) List.pairwise_lt_range
    simp only [List.mem_range] at hx hy
    rintro ⟨t, ht⟩
    have h1 : 0 < (p : Int) * t := by omega
    have ht0 : 1 ≤ t := by
      rcases Int.lt_or_le t 1 with h | h
      · have := Int.mul_le_mul_of_nonneg_left (show t ≤ 0 by omega) (show 0 ≤ (p : Int) by omega)
        omega
      · exact h
    have := Int.mul_le_mul_of_nonneg_left ht0 (show 0 ≤ (p : Int) by omega)
    omega
  · intro x hx
    obtain ⟨i, hi, rfl⟩ := List.mem_map.1 hx
    rw [List.mem_range] at hi
    have h1 := hall (i + 1) (by omega) (by omega)
    rw [ev, ev_pow]
    rw [Int.pow_succ] at h1
    have e1 : -1 + ((i + 1 : Nat) : Int) * ((i + 1 : Nat) : Int) ^ e = ((i + 1 : Nat) : Int) ^ e * ((i + 1 : Nat) : Int) - 1 := by grind
    rw [e1]; exact h1
theorem not_dvd_small {p c : Nat} (h1 : 1 ≤ c) (h2 : c < p) : ¬ (p : Int) ∣ (c : Int) := fun h => by
  have := Int.ofNat_dvd.1 h
  have := Nat.le_of_dvd (by omega) this
  omega
/-- An element whose order is a given power of a prime. -/
theorem ord_pp {p q e : Nat} (hp : Pr p) (hq : Pr q) (he : 1 ≤ e) (hd : q ^ e ∣ p - 1) : ∃ a : Int, IsOrd a p (q ^ e) := by
  have hq0 := hq.1
  have hp0 := hp.1
  obtain ⟨t, ht⟩ := hd
  obtain ⟨f, rfl⟩ : ∃ f, e = f + 1 := ⟨e - 1, by omega⟩
  have hqf : 1 ≤ q ^ f := Nat.pow_pos (by omega)
  have ht0 : 1 ≤ t := by
    rcases Nat.eq_zero_or_pos t with h | h
    · subst h; omega
    · exact h
  have hpd : p - 1 = q * (q ^ f * t) := by rw [ht, Nat.pow_succ]; grind
  have hlt : q ^ f * t < p - 1 := by
    have h1 : 1 ≤ q ^ f * t := Nat.le_trans (show 1 ≤ 1 * 1 by omega) (Nat.mul_le_mul hqf ht0)
    have : 2 * (q ^ f * t) ≤ q * (q ^ f * t) := Nat.mul_le_mul_right _ (by omega)
    omega
  obtain ⟨c, c1, c2, c3⟩ := not_root hp (Nat.le_trans (show 1 ≤ 1 * 1 by omega) (Nat.mul_le_mul hqf ht0)) hlt
  refine ⟨(c : Int) ^ t, isOrd_of_primes (Nat.pow_pos (by omega)) ?_ fun r hr hrd => ?_⟩
  · rw [← Int.pow_mul, Nat.mul_comm, ← ht]
    exact fermat hp (not_dvd_small c1 c2)
  · have hrq := pr_eq hr hq (pr_dvd_pow hr hrd)
    subst hrq
    rw [Nat.pow_succ, Nat.mul_div_cancel _ (by omega), ← Int.pow_mul, Nat.mul_comm]
    exact c3
theorem IsOrd.mul {a b m : Int} {x y : Nat} (h : IsOrd a m x) (k : IsOrd b m y) (hc : Nat.Coprime x y) : IsOrd (a * b) m (x * y) := by
  have h0 := h.pos
  have k0 := k.pos
  have key : ∀ {a b : Int} {x y : Nat}, IsOrd a m x → IsOrd b m y → Nat.Coprime x y → ∀ e, m ∣ (a * b) ^ e - 1 → x ∣ e := by
    intro a b x y h k hc e he
    have h1 : m ∣ (a * b) ^ (e * y) - 1 := pow_one_of_dvd he (Nat.dvd_mul_right _ _)
    have h2 : m ∣ b ^ (e * y) - 1 := pow_one_of_dvd k.one (Nat.dvd_mul_left _ _)
    rw [Int.mul_pow] at h1
    have h3 := dvd_mul_sub (show m ∣ a ^ (e * y) - a ^ (e * y) by simp) h2
    rw [Int.mul_one] at h3
    have h4 : m ∣ a ^ (e * y) - 1 := by
      have := Int.dvd_sub h1 h3
      rwa [show a ^ (e * y) * b ^ (e * y) - 1 - (a ^ (e * y) * b ^ (e * y) - a ^ (e * y)) = a ^ (e * y) - 1 by omega] at this
    exact hc.dvd_of_dvd_mul_right (h.min _ h4)
  refine ⟨Nat.le_trans (show 1 ≤ 1 * 1 by omega) (Nat.mul_le_mul h0 k0), ?_, fun e he => ?_⟩
  · rw [Int.mul_pow]
    have h1 : m ∣ a ^ (x * y) - 1 := pow_one_of_dvd h.one (Nat.dvd_mul_right _ _)
    have h2 : m ∣ b ^ (x * y) - 1 := pow_one_of_dvd k.one (Nat.dvd_mul_left _ _)
    have := dvd_mul_sub h1 h2
    rwa [Int.mul_one] at this
  · exact hc.mul_dvd_of_dvd_of_dvd (key h k hc e he) (key k h hc.symm e (by rw [Int.mul_comm]; exact he))
theorem ord_all {p : Nat} (hp : Pr p) : ∀ F : List (Nat × Nat), (∀ q ∈ F, Pr q.1 ∧ 1 ≤ q.2 ∧ q.1 ^ q.2 ∣ p - 1) → F.Pairwise (fun p q => p.1 < q.1) → ∃ g : Int, IsOrd g p (prod (F.map fun q => q.1 ^ q.2)) := by
  intro F
  induction F with
  | nil => intro _ _; exact ⟨1, Nat.le_refl _, by simp [prod], fun e _ => Nat.one_dvd _⟩
  | cons q F ih =>
    intro h1 h2
    rw [List.pairwise_cons] at h2
    obtain ⟨g, hg⟩ := ih (fun y hy => h1 y (by simp [hy])) h2.2
    obtain ⟨hq1, hq2, hq3⟩ := h1 q (by simp)
    obtain ⟨a, ha⟩ := ord_pp hp hq1 hq2 hq3
    refine ⟨a * g, ?_⟩
    rw [List.map_cons, prod]
    refine ha.mul hg ?_
    clear hg ha ih
    induction F with
    | nil => exact Nat.coprime_one_right _
    | cons r F ih =>
      simp only [List.map_cons, prod]
      refine Nat.Coprime.mul_right (pow_coprime hq1 (h1 r (by simp)).1 ?_ _ _) (ih (fun y hy => h1 y (by simp at hy ⊢; rcases hy with h | h <;> simp [h])) ⟨fun y hy => h2.1 y (by simp [hy]), (List.pairwise_cons.1 h2.2).2⟩)
      have := h2.1 r (by simp)
      omega
/-- A primitive root among the residues. -/
theorem prim_exists {p : Nat} (hp : Pr p) : ∃ g : Nat, 1 ≤ g ∧ g < p ∧ IsOrd (g : Int) p (p - 1) := by
  have hp0 := hp.1
  have hF := facs_two_is (n := p - 1) (by omega)
  obtain ⟨g, hg⟩ := ord_all hp (facs 2 (p - 1)) (fun q hq => ⟨(hF.mem q hq).1, (hF.mem q hq).2.2, by
    conv => rhs; rw [← hF.mul]
    exact dvd_prod (List.mem_map.2 ⟨q, hq, rfl⟩)⟩) hF.asc
  rw [hF.mul] at hg
  have h0 := Int.emod_nonneg g (show (p : Int) ≠ 0 by omega)
  have h1 := Int.emod_lt_of_pos g (show 0 < (p : Int) by omega)
  have hcg : ∀ e, (p : Int) ∣ (g % (p : Int)) ^ e - g ^ e := fun e => dvd_pow_sub (dvd_emod_sub _ _) e
  have hiff : ∀ e, (p : Int) ∣ (g % (p : Int)) ^ e - 1 ↔ (p : Int) ∣ g ^ e - 1 := fun e => by
    constructor
    · intro h
      have := Int.dvd_sub h (hcg e)
      rwa [show (g % (p : Int)) ^ e - 1 - ((g % (p : Int)) ^ e - g ^ e) = g ^ e - 1 by omega] at this
    · intro h
      have := Int.dvd_add h (hcg e)
      rwa [show g ^ e - 1 + ((g % (p : Int)) ^ e - g ^ e) = (g % (p : Int)) ^ e - 1 by omega] at this
  refine ⟨(g % (p : Int)).toNat, ?_, by omega, ?_⟩
  · rcases Nat.eq_zero_or_pos (g % (p : Int)).toNat with hz | hz
    · exfalso
      have hg0 : g % (p : Int) = 0 := by omega
      have h2 := (hiff (p - 1)).2 hg.one
      rw [hg0, Int.zero_pow (by omega)] at h2
      have := Int.ofNat_dvd_left.1 h2
      have := Nat.le_of_dvd (by simp) this
      simp at *
      omega
    · exact hz
  · rw [Int.toNat_of_nonneg h0]
    exact ⟨hg.pos, (hiff _).2 hg.one, fun e he => hg.min e ((hiff e).1 he)⟩
end Go.Proofs.Ytoeailhcobbhjaa
