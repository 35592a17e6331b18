/- Orders: what the loop over the primes of the number of units leaves. -/
import Derived.Test.YtoeailhcobbhjaaOrdMath
namespace Go.Proofs.Ytoeailhcobbhjaa
open Go.RowKit

theorem least_of {P : Nat → Prop} : ∀ n, P n → ∃ k, P k ∧ ∀ j, j < k → ¬ P j := by
  intro n
  induction n using Nat.strongRecOn with
  | _ n ih =>
    intro h
    by_cases hx : ∃ j, j < n ∧ P j
    · obtain ⟨j, hj, hp⟩ := hx
      exact ih j hj hp
    · exact ⟨n, h, fun j hj hp => hx ⟨j, hj, hp⟩⟩
theorem ord_dvd {m a : Int} {D e : Nat} (hD : 1 ≤ D) (h1 : m ∣ a ^ D - 1) (hl : ∀ j, 1 ≤ j → j < D → ¬ m ∣ a ^ j - 1) (h : m ∣ a ^ e - 1) : D ∣ e := by
  have hr : m ∣ a ^ (e % D) - 1 := by
    have e1 : m ∣ a ^ (D * (e / D)) - 1 := pow_one_of_dvd h1 (Nat.dvd_mul_right _ _)
    have e2 := dvd_mul_sub e1 (show m ∣ a ^ (e % D) - a ^ (e % D) by simp)
    rw [Int.one_mul, ← Int.pow_add, Nat.div_add_mod] at e2
    have := Int.dvd_sub h e2
    rwa [show a ^ e - 1 - (a ^ e - a ^ (e % D)) = a ^ (e % D) - 1 by omega] at this
  rcases Nat.eq_zero_or_pos (e % D) with h0 | h0
  · exact Nat.dvd_of_mod_eq_zero h0
  · exact absurd hr (hl _ h0 (Nat.mod_lt _ (by omega)))
/-- The order. -/
structure IsOrd (a m : Int) (o : Nat) : Prop where
  pos : 1 ≤ o
  one : m ∣ a ^ o - 1
  min : ∀ e, m ∣ a ^ e - 1 → o ∣ e
theorem IsOrd.unique {a m : Int} {o o' : Nat} (h : IsOrd a m o) (k : IsOrd a m o') : o = o' :=
  Nat.dvd_antisymm (h.min _ k.one) (k.min _ h.one)
theorem isOrd_of_primes {a m : Int} {o : Nat} (ho : 1 ≤ o) (h1 : m ∣ a ^ o - 1) (h : ∀ q, Pr q → q ∣ o → ¬ m ∣ a ^ (o / q) - 1) : IsOrd a m o := by
  obtain ⟨D, ⟨hD, hD1⟩, hl⟩ := least_of (P := fun n => 1 ≤ n ∧ m ∣ a ^ n - 1) o ⟨ho, h1⟩
  have hm : ∀ e, m ∣ a ^ e - 1 → D ∣ e := fun e he => ord_dvd hD hD1 (fun j j1 j2 j3 => hl j j2 ⟨j1, j3⟩) he
  have hd := hm o h1
  obtain ⟨c, rfl⟩ := hd
  by_cases hc : c = 1
  · subst hc
    rw [Nat.mul_one] at *
    exact ⟨hD, hD1, hm⟩
  · exfalso
    have hc1 : 1 < c := by
      rcases Nat.eq_zero_or_pos c with h0 | h0
      · subst h0; omega
      · omega
    obtain ⟨q, hq, t, rfl⟩ := pr_of hc1
    have hq0 := hq.1
    refine h q hq ⟨D * t, by grind⟩ ?_
    rw [show D * (q * t) = q * (D * t) by grind, Nat.mul_div_cancel_left _ (by omega)]
    exact pow_one_of_dvd hD1 (Nat.dvd_mul_right _ _)

theorem pr_dvd_pow {p x k : Nat} (hp : Pr p) (h : p ∣ x ^ k) : p ∣ x := by
  induction k with
  | zero =>
    have := Nat.le_of_dvd (by simp) h
    have := hp.1
    simp at *
    omega
  | succ k ih =>
    rw [Nat.pow_succ] at h
    exact (hp.dvd_mul h).elim ih id
theorem pr_eq {p q : Nat} (hp : Pr p) (hq : Pr q) (h : p ∣ q) : p = q := by
  refine Classical.byContradiction fun hne => ?_
  have := Nat.le_of_dvd (by have := hq.1; omega) h
  exact hq.div (by have := hp.1; omega) (by omega) (Nat.mod_eq_zero_of_dvd h)
theorem pr_mem {q : Nat} (hq : Pr q) : ∀ F : List (Nat × Nat), (∀ p ∈ F, Pr p.1) → q ∣ prod (F.map fun p => p.1 ^ p.2) → ∃ p ∈ F, p.1 = q := by
  intro F
  induction F with
  | nil =>
    intro _ h
    have := Nat.le_of_dvd (by simp [prod]) h
    have := hq.1
    simp [prod] at *
    omega
  | cons r F ih =>
    intro h1 h
    simp only [List.map_cons, prod] at h
    rcases hq.dvd_mul h with h | h
    · exact ⟨r, by simp, (pr_eq hq (h1 r (by simp)) (pr_dvd_pow hq h)).symm⟩
    · obtain ⟨p, hp, e⟩ := ih (fun y hy => h1 y (by simp [hy])) h
      exact ⟨p, by simp [hp], e⟩
/-- The exact power of a prime of a factorization. -/
theorem exact_pow {n : Nat} {F : List (Nat × Nat)} (h : FacIs 2 n F) {i : Nat} (hi : i < F.length) : F[i].1 ^ F[i].2 ∣ n ∧ ¬ F[i].1 ^ (F[i].2 + 1) ∣ n := by
  have hmem := List.getElem_mem hi
  have hp := (h.mem _ hmem).1
  have hm := h.mul
  have hs : F = F.take i ++ F[i] :: F.drop (i + 1) := by rw [List.getElem_cons_drop, List.take_append_drop]
  have ha := h.asc
  rw [hs] at ha
  rw [List.pairwise_append] at ha
  obtain ⟨_, ha2, ha3⟩ := ha
  rw [List.pairwise_cons] at ha2
  have n1 : ¬ F[i].1 ∣ prod ((F.take i).map fun p => p.1 ^ p.2) := fun hd => by
    obtain ⟨p, hp1, hp2⟩ := pr_mem hp _ (fun p hp => (h.mem p (List.mem_of_mem_take hp)).1) hd
    have := ha3 p hp1 F[i] List.mem_cons_self
    omega
  have n2 : ¬ F[i].1 ∣ prod ((F.drop (i + 1)).map fun p => p.1 ^ p.2) := fun hd => by
    obtain ⟨p, hp1, hp2⟩ := pr_mem hp _ (fun p hp => (h.mem p (List.mem_of_mem_drop hp)).1) hd
    have := ha2.1 p hp1
    omega
  have e : n = F[i].1 ^ F[i].2 * (prod ((F.take i).map fun p => p.1 ^ p.2) * prod ((F.drop (i + 1)).map fun p => p.1 ^ p.2)) := by
    conv => lhs; rw [← hm, hs]
    rw [List.map_append, prod_append, List.map_cons, prod]
    grind
  refine ⟨⟨_, e⟩, fun hd => ?_⟩
  rw [e, Nat.pow_succ] at hd
  have h3 := Nat.dvd_of_mul_dvd_mul_left (Nat.pow_pos (by have := hp.1; omega)) hd
  exact (hp.dvd_mul h3).elim n1 n2

/-- Inside the loop: the primes before k are done, j times the k-th was taken out. -/
structure OIn (a m : Int) (n : Nat) (F : List (Nat × Nat)) (k j o : Nat) : Prop where
  pos : 1 ≤ o
  dvd : o ∣ n
  one : m ∣ a ^ o - 1
  done : ∀ i (h : i < F.length), i < k → F[i].1 ∣ o → ¬ m ∣ a ^ (o / F[i].1) - 1
  here : ∀ h : k < F.length, j ≤ F[k].2 ∧ F[k].1 ^ (F[k].2 - j) ∣ o ∧ ¬ F[k].1 ^ (F[k].2 - j + 1) ∣ o
  left : ∀ i (h : i < F.length), k < i → F[i].1 ^ F[i].2 ∣ o ∧ ¬ F[i].1 ^ (F[i].2 + 1) ∣ o
theorem OIn.start {a m : Int} {n : Nat} {F : List (Nat × Nat)} (hF : FacIs 2 n F) (hn : 1 ≤ n) (h : m ∣ a ^ n - 1) : OIn a m n F 0 0 n :=
  ⟨hn, Nat.dvd_refl _, h, fun i _ hi => absurd hi (by omega), fun h => ⟨by omega, by simpa using exact_pow hF h⟩, fun i h _ => exact_pow hF h⟩
theorem OIn.next {a m : Int} {n : Nat} {F : List (Nat × Nat)} {k j o : Nat} (h : OIn a m n F k j o) (hk : k < F.length) (hq : ¬ m ∣ a ^ (o / F[k].1) - 1 ∨ j = F[k].2) : OIn a m n F (k + 1) 0 o := by
  refine ⟨h.pos, h.dvd, h.one, fun i hi hik hd => ?_, fun h2 => ⟨by omega, by simpa using h.left (k + 1) h2 (by omega)⟩, fun i hi hik => h.left i hi (by omega)⟩
  rcases Nat.lt_or_ge i k with hl | hl
  · exact h.done i hi hl hd
  · obtain rfl : i = k := by omega
    rcases hq with hq | hq
    · exact hq
    · have := (h.here hk).2.2
      rw [hq, Nat.sub_self, Nat.zero_add, Nat.pow_one] at this
      exact absurd hd this
theorem OIn.dvd_cur {a m : Int} {n : Nat} {F : List (Nat × Nat)} {k j o : Nat} (h : OIn a m n F k j o) (hk : k < F.length) (hj : j < F[k].2) : F[k].1 ∣ o :=
  Nat.dvd_trans (dvd_pow_self_of _ (by omega)) (h.here hk).2.1
theorem OIn.hit {a m : Int} {n : Nat} {F : List (Nat × Nat)} {k j o : Nat} (hF : FacIs 2 n F) (h : OIn a m n F k j o) (hk : k < F.length) (hj : j < F[k].2) (hq : m ∣ a ^ (o / F[k].1) - 1) : OIn a m n F k (j + 1) (o / F[k].1) := by
  obtain ⟨c, hc⟩ := h.dvd_cur hk hj
  have hqp := (hF.mem _ (List.getElem_mem hk)).1
  have hq0 := hqp.1
  have e : o / F[k].1 = c := by rw [hc, Nat.mul_div_cancel_left _ (by omega)]
  have hc1 : 1 ≤ c := by
    rcases Nat.eq_zero_or_pos c with h0 | h0
    · rw [h0] at hc; have := h.pos; omega
    · exact h0
  have hco : c ∣ o := ⟨F[k].1, by rw [hc, Nat.mul_comm]⟩
  rw [e] at hq ⊢
  obtain ⟨_, g1, g2⟩ := h.here hk
  refine ⟨hc1, Nat.dvd_trans hco h.dvd, hq, fun i hi hik hd hx => ?_, fun _ => ⟨by omega, ?_, fun hd => ?_⟩, fun i hi hik => ⟨?_, fun hd => ?_⟩⟩
  · have hp0 := (hF.mem _ (List.getElem_mem hi)).1.1
    refine h.done i hi hik (Nat.dvd_trans hd hco) ?_
    obtain ⟨t, ht⟩ := hd
    rw [ht, Nat.mul_div_cancel_left _ (by omega)] at hx
    rw [hc, ht, show F[k].1 * (F[i].1 * t) = F[i].1 * (t * F[k].1) by grind, Nat.mul_div_cancel_left _ (by omega)]
    exact pow_one_of_dvd hx (Nat.dvd_mul_right _ _)
  · rw [show F[k].2 - j = F[k].2 - (j + 1) + 1 by omega, Nat.pow_succ, Nat.mul_comm, hc] at g1
    exact Nat.dvd_of_mul_dvd_mul_left (by omega) g1
  · refine g2 ?_
    rw [show F[k].2 - j + 1 = F[k].2 - (j + 1) + 1 + 1 by omega, Nat.pow_succ, Nat.mul_comm, hc]
    exact Nat.mul_dvd_mul_left _ hd
  · have hl := (h.left i hi hik).1
    rw [hc] at hl
    have hne : F[i].1 ≠ F[k].1 := by
      have := List.pairwise_iff_getElem.1 hF.asc k i hk hi hik
      omega
    have := pow_coprime (hF.mem _ (List.getElem_mem hi)).1 hqp hne F[i].2 1
    rw [Nat.pow_one] at this
    exact this.dvd_of_dvd_mul_left hl
  · exact (h.left i hi hik).2 (Nat.dvd_trans hd hco)
theorem OIn.ord {a m : Int} {n : Nat} {F : List (Nat × Nat)} {k j o : Nat} (hF : FacIs 2 n F) (h : OIn a m n F k j o) (hk : k = F.length) : IsOrd a m o := by
  refine isOrd_of_primes h.pos h.one fun q hq hd => ?_
  have hd2 := Nat.dvd_trans hd h.dvd
  rw [← hF.mul] at hd2
  obtain ⟨p, hp, rfl⟩ := pr_mem hq F (fun p hp => (hF.mem p hp).1) hd2
  obtain ⟨i, hi, rfl⟩ := List.getElem_of_mem hp
  exact h.done i hi (by omega) hd
end Go.Proofs.Ytoeailhcobbhjaa
