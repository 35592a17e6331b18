/- The divisors, as Divisors collects them: prime by prime. -/
import Derived.Test.YtoeailhcobbhjaaFacMath
import Derived.Test.YtoeailhcobbhjaaDivMath
namespace Go.Proofs.Ytoeailhcobbhjaa

/-- Appending x * p for the i-th element x, i = 0, 1 and so on. -/
def grow (L : List Nat) (p : Nat) : Nat → List Nat
  | 0 => L
  | i + 1 => grow L p i ++ [(grow L p i).getD i 0 * p]
theorem grow_len (L : List Nat) (p i : Nat) : (grow L p i).length = L.length + i := by
  induction i with
  | zero => rfl
  | succ i ih => rw [grow, List.length_append, ih]; rfl
theorem grow_get (L : List Nat) (p : Nat) (hL : 1 ≤ L.length) : ∀ i k, k < L.length + i → (grow L p i).getD k 0 = L.getD (k % L.length) 0 * p ^ (k / L.length) := by
  intro i
  induction i with
  | zero =>
    intro k hk
    rw [Nat.mod_eq_of_lt (by omega), Nat.div_eq_of_lt (by omega)]; simp [grow]
  | succ i ih =>
    intro k hk
    by_cases h : k < L.length + i
    · rw [grow, List.getD_eq_getElem?_getD, List.getElem?_append_left (by rw [grow_len]; exact h), ← List.getD_eq_getElem?_getD, ih k h]
    · have hk2 : k = L.length + i := by omega
      subst hk2
      rw [grow, List.getD_eq_getElem?_getD, List.getElem?_append_right (by rw [grow_len]; omega), grow_len, Nat.sub_self]
      simp only [List.getElem?_cons_zero, Option.getD_some]
      rw [ih i (by omega), Nat.add_mod_left, Nat.add_div_left _ (by omega), Nat.pow_succ, Nat.mul_assoc]

theorem pow_dvd_form {p : Nat} (hp : Pr p) : ∀ e x, x ∣ p ^ e → ∃ q, q ≤ e ∧ x = p ^ q := by
  intro e
  induction e with
  | zero => intro x hx; exact ⟨0, by omega, by simpa using hx⟩
  | succ e ih =>
    intro x hx
    by_cases hd : p ∣ x
    · obtain ⟨y, rfl⟩ := hd
      have h1 : y ∣ p ^ e := by
        rw [Nat.pow_succ, Nat.mul_comm (p ^ e)] at hx
        exact Nat.dvd_of_mul_dvd_mul_left (by have := hp.1; omega) hx
      obtain ⟨q, hq, rfl⟩ := ih y h1
      exact ⟨q + 1, by omega, by rw [Nat.pow_succ, Nat.mul_comm]⟩
    · have h1 : Nat.Coprime x p := (hp.coprime hd).symm
      have h2 : x ∣ p ^ e := by
        rw [Nat.pow_succ] at hx
        exact h1.dvd_of_dvd_mul_right hx
      obtain ⟨q, hq, rfl⟩ := ih x h2
      exact ⟨q, by omega, rfl⟩

/-- The list of the divisors of P, each once. -/
structure DivL (P : Nat) (L : List Nat) : Prop where
  nd : L.Nodup
  mem : ∀ x, x ∈ L ↔ x ∣ P
theorem DivL.pos {P : Nat} {L : List Nat} (h : DivL P L) : 1 ≤ L.length := by
  have : 1 ∈ L := (h.mem 1).2 (Nat.one_dvd _)
  exact List.length_pos_of_mem this
theorem DivL.one : DivL 1 [1] := ⟨by simp, fun x => by simp⟩
theorem getD_mem {L : List Nat} {k : Nat} (h : k < L.length) : L.getD k 0 ∈ L := by
  rw [List.getD_eq_getElem?_getD, List.getElem?_eq_getElem h]; exact List.getElem_mem h
theorem pow_cancel {p a b q r : Nat} (hp : 1 < p) (ha : ¬ p ∣ a) (hb : ¬ p ∣ b) (h : a * p ^ q = b * p ^ r) : q = r ∧ a = b := by
  have key : ∀ a b q r : Nat, ¬ p ∣ a → q < r → a * p ^ q = b * p ^ r → False := fun a b q r ha hlt h => by
    obtain ⟨t, rfl⟩ : ∃ t, r = q + (t + 1) := ⟨r - q - 1, by omega⟩
    rw [Nat.pow_add, Nat.mul_comm (p ^ q), ← Nat.mul_assoc] at h
    have := Nat.eq_of_mul_eq_mul_right (Nat.pow_pos (by omega)) h
    exact ha ⟨b * p ^ t, by rw [this, Nat.pow_succ]; grind⟩
  rcases Nat.lt_trichotomy q r with hlt | rfl | hlt
  · exact (key a b q r ha hlt h).elim
  · exact ⟨rfl, Nat.eq_of_mul_eq_mul_right (Nat.pow_pos (by omega)) h⟩
  · exact (key b a r q hb hlt h.symm).elim
theorem DivL.step {P p e : Nat} {L : List Nat} (h : DivL P L) (hp : Pr p) (hP : ¬ p ∣ P) : DivL (P * p ^ e) (grow L p (L.length * e)) := by
  have hl := h.pos
  have hlen : (grow L p (L.length * e)).length = L.length * (e + 1) := by rw [grow_len, Nat.mul_succ]; omega
  have hget : ∀ k, k < L.length * (e + 1) → (grow L p (L.length * e)).getD k 0 = L.getD (k % L.length) 0 * p ^ (k / L.length) := fun k hk => by
    rw [Nat.mul_succ] at hk
    exact grow_get L p hl _ k (by omega)
  have hnp : ∀ k, ¬ p ∣ L.getD (k % L.length) 0 := fun k hd => by
    have hm := (h.mem _).1 (getD_mem (L := L) (Nat.mod_lt k hl))
    exact hP (Nat.dvd_trans hd hm)
  constructor
  · rw [List.nodup_iff_pairwise_ne, List.pairwise_iff_getElem]
    intro i j hi hj hij heq
    rw [hlen] at hi hj
    have e1 := hget i hi
    have e2 := hget j hj
    rw [List.getD_eq_getElem?_getD, List.getElem?_eq_getElem (by omega)] at e1 e2
    simp only [Option.getD_some] at e1 e2
    rw [e1, e2] at heq
    obtain ⟨h1, h2⟩ := pow_cancel hp.1 (hnp i) (hnp j) heq
    have hi2 := Nat.mod_lt i hl
    have hj2 := Nat.mod_lt j hl
    rw [List.getD_eq_getElem?_getD, List.getElem?_eq_getElem hi2, List.getD_eq_getElem?_getD, List.getElem?_eq_getElem hj2] at h2
    simp only [Option.getD_some] at h2
    have h3 : i % L.length = j % L.length := by
      rcases Nat.lt_trichotomy (i % L.length) (j % L.length) with hlt | he | hlt
      · exact absurd h2 (List.pairwise_iff_getElem.1 h.nd _ _ hi2 hj2 hlt)
      · exact he
      · exact absurd h2.symm (List.pairwise_iff_getElem.1 h.nd _ _ hj2 hi2 hlt)
    have := Nat.div_add_mod i L.length
    have := Nat.div_add_mod j L.length
    rw [h1, h3] at *
    omega
  · intro x
    constructor
    · intro hx
      obtain ⟨k, hk, rfl⟩ := List.getElem_of_mem hx
      rw [hlen] at hk
      have e1 := hget k hk
      rw [List.getD_eq_getElem?_getD, List.getElem?_eq_getElem (by omega)] at e1
      simp only [Option.getD_some] at e1
      rw [e1]
      have hq : k / L.length ≤ e := by
        have : k / L.length < e + 1 := by rw [Nat.div_lt_iff_lt_mul hl, Nat.mul_comm]; exact hk
        omega
      exact Nat.mul_dvd_mul ((h.mem _).1 (getD_mem (Nat.mod_lt k hl))) (Nat.pow_dvd_pow p hq)
    · intro hx
      obtain ⟨a, b, ha, hb, rfl⟩ := Nat.dvd_mul.1 hx
      obtain ⟨q, hq, rfl⟩ := pow_dvd_form hp e b hb
      obtain ⟨r, hr, rfl⟩ := List.getElem_of_mem ((h.mem a).2 ha)
      have hk : L.length * q + r < L.length * (e + 1) := by
        have : L.length * q ≤ L.length * e := Nat.mul_le_mul_left _ hq
        rw [Nat.mul_succ]; omega
      have e1 := hget _ hk
      rw [Nat.mul_add_mod, Nat.mod_eq_of_lt hr, Nat.mul_add_div (by omega), Nat.div_eq_of_lt hr, Nat.add_zero] at e1
      rw [List.getD_eq_getElem?_getD (l := L), List.getElem?_eq_getElem hr] at e1
      simp only [Option.getD_some] at e1
      rw [← e1]
      exact getD_mem (by omega)
/-- Two ascending lists with the same elements. -/
theorem asc_eq {L M : List Nat} (hL : L.Pairwise (· < ·)) (hM : M.Pairwise (· < ·)) (h : ∀ x, x ∈ L ↔ x ∈ M) : L = M := by
  have hp : L.Perm M := (List.perm_ext_iff_of_nodup (hL.imp (fun h => by omega)) (hM.imp (fun h => by omega))).2 h
  exact hp.eq_of_pairwise (le := (· < ·)) (fun a b _ _ h1 h2 => by omega) hL hM
end Go.Proofs.Ytoeailhcobbhjaa
