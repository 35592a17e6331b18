/- The sum of the new dimensions over the divisors: decided from the table of the formula's numbers. -/
import Derived.Test.YtcgedfmagapnpaaDnL
namespace Go.Proofs.Ytcgedfmagapnpaa
set_option linter.unusedVariables false
set_option linter.unusedSimpArgs false

def nwW (n k : Nat) (D : Int) : Int := nwT n k D (dvN n) 0
def odT (n k : Nat) (D : Int) : List Nat → Int → Int
  | [], x => x
  | m :: l, x => if (m : Int) % D = 0 then odT n k D l (x + nwW m k D * ((dvN (n / m)).length : Int)) else odT n k D l x
def odF (n k : Nat) (D : Int) : List Nat → Int → Int
  | [], x => x
  | m :: l, x => if (m : Int) % D = 0 then odF n k D l (x + nwV m k D * ((dvN (n / m)).length : Int)) else odF n k D l x
def odOk (n : Nat) (D : Int) (k : Nat) : Bool := !(decide ((dLook n D).1 * ((k : Int) - 1) ≤ 512) && (decide (0 < D) == decide (k % 2 = 0))) || (decide (0 ≤ nwW n k D) && decide (odT n k D (dvN n) 0 = cpT n k D))
set_option maxRecDepth 100000 in
theorem od_all : (List.range 120).all (fun i => (dLv (i + 1)).all fun D => (List.range 23).all fun j => odOk (i + 1) D (j + 2)) = true := by decide +kernel
def psOk (n : Nat) : Bool := (List.range n).all fun i => decide (n % (i + 1) ≠ 0) || decide (psV (i + 1) ≤ psV n)
set_option maxRecDepth 100000 in
theorem ps_all : (List.range 120).all (fun i => psOk (i + 1)) = true := by decide +kernel
theorem ps_mono {n m : Nat} (n1 : 1 ≤ n) (n2 : n ≤ 120) (h : m ∣ n) : psV m ≤ psV n := by
  have hm := Nat.pos_of_dvd_of_pos h (by omega)
  have hle := Nat.le_of_dvd (by omega) h
  have h0 := List.all_eq_true.1 ps_all (n - 1) (List.mem_range.2 (by omega))
  rw [show n - 1 + 1 = n by omega] at h0
  have h1 := List.all_eq_true.1 h0 (m - 1) (List.mem_range.2 (by omega))
  rw [show m - 1 + 1 = m by omega] at h1
  simp only [Bool.or_eq_true, decide_eq_true_eq] at h1
  rcases h1 with h2 | h2
  · exact absurd (Nat.mod_eq_zero_of_dvd h) h2
  · exact h2
theorem look_eq {n : Nat} {D : Int} (h : LD n D) : dLook n D = ((psV n : Int), (lamP n D.natAbs : Int), s4 n D n, s3 n D n) := by
  have h0 := List.all_eq_true.1 dT_all (n - 1) (List.mem_range.2 (by have := h.n1; have := h.n2; omega))
  rw [show n - 1 + 1 = n by have := h.n1; omega] at h0
  have h1 := List.all_eq_true.1 h0 D (mem_dLv h.f h.d1 h.d2 h.m)
  exact of_decide_eq_true h1
theorem cpT_eq {n k : Nat} {D : Int} (h : LD n D) : cpT n k D = cpV n k D := by
  unfold cpT cpV
  rw [look_eq h]
theorem nwT_eq {n k : Nat} {D : Int} (h : LD n D) : ∀ (l : List Nat) (x : Int), (∀ m ∈ l, m ∣ n) → nwT n k D l x = nwF n k D l x
  | [], _, _ => rfl
  | m :: l, x, hm => by
    have ih := fun y => nwT_eq (k := k) h l y fun r hr => hm r (by simp [hr])
    show (if (m : Int) % D = 0 then nwT n k D l (x + btP (n / m) * cpT m k D) else nwT n k D l x) = (if (m : Int) % D = 0 then nwF n k D l (x + btP (n / m) * cpV m k D) else nwF n k D l x)
    by_cases e : (m : Int) % D = 0
    · rw [if_pos e, if_pos e, cpT_eq (h.div (hm m (by simp)) e), ih]
    · rw [if_neg e, if_neg e, ih]
theorem nwW_eq {n k : Nat} {D : Int} (h : LD n D) : nwW n k D = nwV n k D :=
  nwT_eq h _ _ fun m hm => (mem_dvN h.n1).1 hm
theorem odT_eq {n k : Nat} {D : Int} (h : LD n D) : ∀ (l : List Nat) (x : Int), (∀ m ∈ l, m ∣ n) → odT n k D l x = odF n k D l x
  | [], _, _ => rfl
  | m :: l, x, hm => by
    have ih := fun y => odT_eq (k := k) h l y fun r hr => hm r (by simp [hr])
    show (if (m : Int) % D = 0 then odT n k D l (x + nwW m k D * ((dvN (n / m)).length : Int)) else odT n k D l x) = (if (m : Int) % D = 0 then odF n k D l (x + nwV m k D * ((dvN (n / m)).length : Int)) else odF n k D l x)
    by_cases e : (m : Int) % D = 0
    · rw [if_pos e, if_pos e, nwW_eq (h.div (hm m (by simp)) e), ih]
    · rw [if_neg e, if_neg e, ih]
theorem od_of {n k : Nat} {D : Int} (h : ckV n k D = 0) : 0 ≤ nwV n k D ∧ odF n k D (dvN n) 0 = cpV n k D := by
  have hl := ckV_ld h
  obtain ⟨_, ⟨k1, k2⟩, _, _, _, hp, hL⟩ := ckV_ok h
  have h0 := List.all_eq_true.1 od_all (n - 1) (List.mem_range.2 (by have := hl.n1; have := hl.n2; omega))
  rw [show n - 1 + 1 = n by have := hl.n1; omega] at h0
  have h1 := List.all_eq_true.1 h0 D (mem_dLv hl.f hl.d1 hl.d2 hl.m)
  have h2 := List.all_eq_true.1 h1 (k - 2) (List.mem_range.2 (by omega))
  rw [show k - 2 + 2 = k by omega] at h2
  unfold odOk at h2
  rw [look_eq hl] at h2
  have e1 : decide ((psV n : Int) * ((k : Int) - 1) ≤ 512) = true := decide_eq_true hL
  have e2 : (decide (0 < D) == decide (k % 2 = 0)) = true := by
    rw [beq_iff_eq]
    by_cases hd : 0 < D
    · have := hp.1 hd
      rw [decide_eq_true hd, decide_eq_true (show k % 2 = 0 by omega)]
    · have : ¬ (k : Int) % 2 = 0 := fun h => hd (hp.2 h)
      rw [decide_eq_false hd, decide_eq_false (show ¬ k % 2 = 0 by omega)]
  simp only [e1, e2, Bool.and_self, Bool.not_true, Bool.false_or, Bool.and_eq_true, decide_eq_true_eq] at h2
  rw [nwW_eq hl, odT_eq hl _ _ (fun m hm => (mem_dvN hl.n1).1 hm), cpT_eq hl] at h2
  exact h2
/-- A divisor of a level of a space is that of a space. -/
theorem ck_div {n m k : Nat} {D : Int} (h : ckV n k D = 0) (hm : m ∣ n) (hd : (m : Int) % D = 0) : ckV m k D = 0 := by
  have hl := (ckV_ld h).div hm hd
  obtain ⟨⟨n1, n2⟩, ⟨k1, k2⟩, _, _, _, hp, hL⟩ := ckV_ok h
  have hps := ps_mono (by omega) (by omega) hm
  have hmul : (psV m : Int) * ((k : Int) - 1) ≤ (psV n : Int) * ((k : Int) - 1) := Int.mul_le_mul_of_nonneg_right (by omega) (by omega)
  have a1 := hl.n1
  have a2 := hl.n2
  have a3 := hl.d1
  have a4 := hl.d2
  have hL' : (psV n : Int) * ((k : Int) - 1) ≤ 512 := hL
  unfold ckV
  rw [if_neg (by omega), if_neg (by rw [hl.f]; decide), if_neg (by rw [hl.m]; decide), if_neg (by simpa using hp), if_neg]
  show ¬ 512 < (psV m : Int) * ((k : Int) - 1)
  omega
theorem odF_append (n k : Nat) (D : Int) : ∀ l m x, odF n k D (l ++ m) x = odF n k D m (odF n k D l x)
  | [], _, _ => rfl
  | d :: l, m, x => by
    show (if (d : Int) % D = 0 then odF n k D (l ++ m) (x + nwV d k D * ((dvN (n / d)).length : Int)) else odF n k D (l ++ m) x) = odF n k D m (if (d : Int) % D = 0 then odF n k D l (x + nwV d k D * ((dvN (n / d)).length : Int)) else odF n k D l x)
    split
    · exact odF_append n k D l m _
    · exact odF_append n k D l m _
theorem nwF_bd {n k : Nat} {D : Int} (h : LD n D) (k1 : 2 ≤ k) (k2 : k ≤ 24) : ∀ (l : List Nat) (x : Int), (∀ m ∈ l, m ∣ n) → x - 1000000 * (l.length : Int) ≤ nwF n k D l x ∧ nwF n k D l x ≤ x + 1000000 * (l.length : Int)
  | [], x, _ => by simp [nwF]
  | m :: l, x, hm => by
    have ih := fun y => nwF_bd h k1 k2 l y fun r hr => hm r (by simp [hr])
    show _ ≤ (if (m : Int) % D = 0 then nwF n k D l (x + btP (n / m) * cpV m k D) else nwF n k D l x) ∧ (if (m : Int) % D = 0 then nwF n k D l (x + btP (n / m) * cpV m k D) else nwF n k D l x) ≤ _
    rw [List.length_cons]
    by_cases e : (m : Int) % D = 0
    · have := term_bd h (hm m (by simp)) e k1 k2
      have := ih (x + btP (n / m) * cpV m k D)
      rw [if_pos e]; omega
    · have := ih x
      rw [if_neg e]; omega
theorem nwV_bd {n k : Nat} {D : Int} (h : LD n D) (k1 : 2 ≤ k) (k2 : k ≤ 24) : -200000000 ≤ nwV n k D ∧ nwV n k D ≤ 200000000 := by
  have h1 := nwF_bd h k1 k2 (dvN n) 0 (fun m hm => (mem_dvN h.n1).1 hm)
  have h2 := (dvN_bd h.n1 h.n2).1
  unfold nwV
  omega
end Go.Proofs.Ytcgedfmagapnpaa
