/- Fermat, Euler's theorem for a factorization, and orders. -/
import Derived.Test.YtoeailhcobbhjaaRefKron
import Derived.Test.YtoeailhcobbhjaaPhi
namespace Go.Proofs.Ytoeailhcobbhjaa
open Go.RowKit

theorem pr_int {p : Nat} (hp : Pr p) {x y : Int} (h : (p : Int) ∣ x * y) : (p : Int) ∣ x ∨ (p : Int) ∣ y := by
  have := hp.dvd_mul (x := x.natAbs) (y := y.natAbs) (by rw [← Int.natAbs_mul]; exact Int.ofNat_dvd_left.1 h)
  exact this.imp Int.ofNat_dvd_left.2 Int.ofNat_dvd_left.2
theorem pr_int_pow {p : Nat} (hp : Pr p) {x : Int} {k : Nat} (h : (p : Int) ∣ x ^ k) : (p : Int) ∣ x := by
  induction k with
  | zero =>
    have := Int.ofNat_dvd_left.1 h
    have := Nat.le_of_dvd (by simp) this
    have := hp.1
    simp at *
    omega
  | succ k ih =>
    rw [Int.pow_succ] at h
    exact (pr_int hp h).elim ih id
/-- Fermat. -/
theorem fermat {p : Nat} {a : Int} (hp : Pr p) (ha : ¬ (p : Int) ∣ a) : (p : Int) ∣ a ^ (p - 1) - 1 := by
  by_cases h2 : p = 2
  · subst h2
    show ((2 : Nat) : Int) ∣ a ^ 1 - 1
    rw [Int.pow_succ, Int.pow_zero, Int.one_mul]
    omega
  · have h := euler_int (a := a) hp h2
    have hodd := pr_odd hp (by have := hp.1; omega)
    have hj : jacI a p = 0 ∨ jacI a p = 1 ∨ jacI a p = -1 := by
      have := lg_cases a p
      unfold lg at this
      rwa [if_neg h2] at this
    have h1 : jacI a p * jacI a p = 1 := by
      rcases hj with e | e | e
      · rw [e, Int.sub_zero] at h
        exact absurd (pr_int_pow hp h) ha
      · rw [e]; rfl
      · rw [e]; rfl
    have := dvd_mul_sub h h
    rw [h1] at this
    rw [show p - 1 = p / 2 + p / 2 by omega, Int.pow_add]
    exact this
/-- The sum of the first powers. -/
def geo (x : Int) : Nat → Int
  | 0 => 0
  | n + 1 => geo x n + x ^ n
theorem geo_mul (x : Int) (n : Nat) : (x - 1) * geo x n = x ^ n - 1 := by
  induction n with
  | zero => simp [geo]
  | succ n ih => simp only [geo, Int.mul_add, ih, Int.pow_succ]; grind
theorem geo_dvd {m x : Int} (h : m ∣ x - 1) (n : Nat) : m ∣ geo x n - (n : Int) := by
  induction n with
  | zero => simp [geo]
  | succ n ih =>
    have e := dvd_pow_sub h n
    rw [Int.one_pow] at e
    have := Int.dvd_add ih e
    rw [show geo x n - (n : Int) + (x ^ n - 1) = geo x (n + 1) - ((n + 1 : Nat) : Int) by simp only [geo, Int.natCast_add]; omega] at this
    exact this
theorem dvd_pow_self_of (p : Nat) {k : Nat} (hk : 1 ≤ k) : p ∣ p ^ k := by
  rw [show k = (k - 1) + 1 by omega, Nat.pow_succ]
  exact Nat.dvd_mul_left _ _
theorem lift_pow {p k : Nat} {x : Int} (hk : 1 ≤ k) (h : ((p ^ k : Nat) : Int) ∣ x - 1) : ((p ^ (k + 1) : Nat) : Int) ∣ x ^ p - 1 := by
  rw [← geo_mul, Nat.pow_succ, Int.natCast_mul]
  have h1 : (p : Int) ∣ x - 1 := by
    refine Int.dvd_trans ?_ h
    exact Int.natCast_dvd_natCast.2 (dvd_pow_self_of p hk)
  have h2 : (p : Int) ∣ geo x p := by
    have := Int.dvd_add (geo_dvd h1 p) (Int.dvd_refl (p : Int))
    rwa [Int.sub_add_cancel] at this
  exact Int.mul_dvd_mul h h2
theorem euler_pp {p : Nat} {a : Int} (hp : Pr p) (ha : ¬ (p : Int) ∣ a) (k : Nat) : ((p ^ (k + 1) : Nat) : Int) ∣ a ^ (p ^ k * (p - 1)) - 1 := by
  induction k with
  | zero =>
    rw [Nat.pow_zero, Nat.one_mul]
    simpa using fermat hp ha
  | succ k ih =>
    have := lift_pow (by omega) ih
    rw [← Int.pow_mul] at this
    rwa [show p ^ k * (p - 1) * p = p ^ (k + 1) * (p - 1) by rw [Nat.pow_succ]; grind] at this
/-- Euler's function as a product. -/
def tot (F : List (Nat × Nat)) : Nat := prod (F.map fun p => p.1 ^ (p.2 - 1) * (p.1 - 1))
theorem phiOf_tot : ∀ (F : List (Nat × Nat)) (c : Nat), (∀ q ∈ F, 1 ≤ q.1 ∧ 1 ≤ q.2) → phiOf (c * prod (F.map fun p => p.1 ^ p.2)) F = c * tot F := by
  intro F
  induction F with
  | nil => intro c _; rfl
  | cons q F ih =>
    intro c h
    obtain ⟨h1, h2⟩ := h q (by simp)
    have e : phiStep (c * prod ((q :: F).map fun p => p.1 ^ p.2)) q = (c * (q.1 ^ (q.2 - 1) * (q.1 - 1))) * prod (F.map fun p => p.1 ^ p.2) := by
      unfold phiStep
      simp only [List.map_cons, prod]
      have e2 : q.1 ^ q.2 = q.1 * q.1 ^ (q.2 - 1) := by
        conv => lhs; rw [show q.2 = (q.2 - 1) + 1 by omega, Nat.pow_succ]
        exact Nat.mul_comm _ _
      rw [e2, show c * (q.1 * q.1 ^ (q.2 - 1) * prod (F.map fun p => p.1 ^ p.2)) = q.1 * (c * q.1 ^ (q.2 - 1) * prod (F.map fun p => p.1 ^ p.2)) by grind, Nat.mul_div_cancel_left _ (by omega)]
      obtain ⟨r, hr⟩ : ∃ r, q.1 = r + 1 := ⟨q.1 - 1, by omega⟩
      rw [hr, Nat.add_sub_cancel]
      rw [Nat.add_mul, Nat.one_mul, Nat.add_sub_cancel]
      grind
    unfold phiOf at ih ⊢
    rw [List.foldl_cons, e, ih _ (fun x hx => h x (by simp [hx]))]
    simp only [tot, List.map_cons, prod]
    grind
theorem phiOf_facs {n : Nat} (hn : 1 ≤ n) : phiOf n (facs 2 n) = tot (facs 2 n) := by
  have h := facs_two_is hn
  have := phiOf_tot (facs 2 n) 1 (fun q hq => ⟨by have := (h.mem q hq).1.1; omega, (h.mem q hq).2.2⟩)
  rw [h.mul, Nat.one_mul, Nat.one_mul] at this
  exact this
theorem dvd_prod {l : List Nat} {x : Nat} (h : x ∈ l) : x ∣ prod l := by
  induction l with
  | nil => cases h
  | cons y l ih =>
    simp only [prod]
    rcases List.mem_cons.1 h with rfl | h
    · exact Nat.dvd_mul_right _ _
    · exact Nat.dvd_mul_left_of_dvd (ih h) _
theorem pow_one_of_dvd {m a : Int} {d e : Nat} (h : m ∣ a ^ d - 1) (hd : d ∣ e) : m ∣ a ^ e - 1 := by
  obtain ⟨c, rfl⟩ := hd
  have := dvd_pow_sub h c
  rwa [Int.one_pow, ← Int.pow_mul] at this
theorem pow_coprime {p q : Nat} (hp : Pr p) (hq : Pr q) (h : p ≠ q) (j k : Nat) : Nat.Coprime (p ^ j) (q ^ k) := by
  refine Nat.Coprime.pow j k (hp.coprime fun hd => ?_)
  rcases Nat.lt_or_ge p q with hl | hl
  · exact hq.div (by have := hp.1; omega) hl (Nat.mod_eq_zero_of_dvd hd)
  · have := Nat.le_of_dvd (by have := hq.1; omega) hd
    omega
/-- Pairwise coprime powers that divide: so does their product. -/
theorem prod_dvd {x : Int} : ∀ F : List (Nat × Nat), (∀ q ∈ F, Pr q.1) → F.Pairwise (fun p q => p.1 < q.1) → (∀ q ∈ F, ((q.1 ^ q.2 : Nat) : Int) ∣ x) → ((prod (F.map fun p => p.1 ^ p.2) : Nat) : Int) ∣ x := by
  intro F
  induction F with
  | nil => intro _ _ _; exact Int.one_dvd _
  | cons q F ih =>
    intro h1 h2 h3
    rw [List.pairwise_cons] at h2
    have i := ih (fun y hy => h1 y (by simp [hy])) h2.2 (fun y hy => h3 y (by simp [hy]))
    simp only [List.map_cons, prod]
    rw [Int.ofNat_dvd_left] at i ⊢
    refine Nat.Coprime.mul_dvd_of_dvd_of_dvd ?_ (Int.ofNat_dvd_left.1 (h3 q (by simp))) i
    clear i h3 ih
    induction F with
    | nil => exact Nat.coprime_one_right _
    | cons r F ih =>
      simp only [List.map_cons, prod]
      refine Nat.Coprime.mul_right (pow_coprime (h1 q (by simp)) (h1 r (by simp)) ?_ _ _) (ih (fun y hy => h1 y (by simp at hy ⊢; rcases hy with h | h <;> simp [h])) ⟨fun y hy => h2.1 y (by simp [hy]), (List.pairwise_cons.1 h2.2).2⟩)
      have := h2.1 r (by simp)
      omega
theorem cop_not {a : Int} {m p : Nat} (hp : Pr p) (hd : p ∣ m) (h : Int.gcd a m = 1) : ¬ (p : Int) ∣ a := fun ha => by
  have h1 : p ∣ Int.gcd a m := Nat.dvd_gcd (Int.ofNat_dvd_left.1 ha) (by simpa using hd)
  rw [h] at h1
  have := Nat.le_of_dvd (by omega) h1
  have := hp.1
  omega
/-- Euler's theorem. -/
theorem euler_phi {a : Int} {n : Nat} (hn : 1 ≤ n) (h : Int.gcd a n = 1) : (n : Int) ∣ a ^ (phiOf n (facs 2 n)) - 1 := by
  have hf := facs_two_is hn
  rw [phiOf_facs hn]
  have := prod_dvd (x := a ^ tot (facs 2 n) - 1) (facs 2 n) (fun q hq => (hf.mem q hq).1) hf.asc (fun q hq => by
    have hm := hf.mem q hq
    have hd : q.1 ^ q.2 ∣ n := by
      conv => rhs; rw [← hf.mul]
      exact dvd_prod (List.mem_map.2 ⟨q, hq, rfl⟩)
    have hna := cop_not hm.1 (Nat.dvd_trans (dvd_pow_self_of q.1 hm.2.2) hd) h
    have e := euler_pp hm.1 hna (q.2 - 1)
    rw [show q.2 - 1 + 1 = q.2 by omega] at e
    exact pow_one_of_dvd e (dvd_prod (List.mem_map.2 ⟨q, hq, rfl⟩)))
  rwa [hf.mul] at this
end Go.Proofs.Ytoeailhcobbhjaa
