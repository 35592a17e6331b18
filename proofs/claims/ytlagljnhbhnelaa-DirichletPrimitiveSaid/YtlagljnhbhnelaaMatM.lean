/- Plain mathematics of 2 by 2 matrices of integers. -/
namespace Go.Proofs.Ytlagljnhbhnelaa

def inE (n : Int) : Bool := decide (-1073741824 ≤ n) && decide (n ≤ 1073741824)
theorem inE_iff {n : Int} : inE n = true ↔ -1073741824 ≤ n ∧ n ≤ 1073741824 := by
  unfold inE; simp
theorem inE_yes {n : Int} (h : -1073741824 ≤ n) (k : n ≤ 1073741824) : inE n = true := inE_iff.2 ⟨h, k⟩
theorem inE_no {n : Int} (h : n < -1073741824 ∨ 1073741824 < n) : inE n = false := by
  cases e : inE n with
  | false => rfl
  | true => have := inE_iff.1 e; omega

structure M where
  a : Int
  b : Int
  c : Int
  d : Int

theorem M.same {x y : M} (h1 : x.a = y.a) (h2 : x.b = y.b) (h3 : x.c = y.c) (h4 : x.d = y.d) : x = y := by
  cases x; cases y; simp_all
def M.ok (m : M) : Bool := inE m.a && inE m.b && inE m.c && inE m.d
theorem M.ok_iff {m : M} : m.ok = true ↔ (-1073741824 ≤ m.a ∧ m.a ≤ 1073741824) ∧ (-1073741824 ≤ m.b ∧ m.b ≤ 1073741824) ∧ (-1073741824 ≤ m.c ∧ m.c ≤ 1073741824) ∧ (-1073741824 ≤ m.d ∧ m.d ≤ 1073741824) := by
  unfold M.ok; simp [inE_iff, and_assoc]
def M.det (m : M) : Int := m.a * m.d - m.b * m.c
def M.mul (x y : M) : M := ⟨x.a * y.a + x.b * y.c, x.a * y.b + x.b * y.d, x.c * y.a + x.d * y.c, x.c * y.b + x.d * y.d⟩
def M.inv (m : M) : M := ⟨m.d, -m.b, -m.c, m.a⟩
def M.one : M := ⟨1, 0, 0, 1⟩
def M.zero : M := ⟨0, 0, 0, 0⟩
theorem M.mul_assoc (x y z : M) : (x.mul y).mul z = x.mul (y.mul z) := by
  refine M.same ?_ ?_ ?_ ?_ <;> simp only [M.mul, Int.add_mul, Int.mul_add, Int.mul_assoc] <;> omega
theorem M.mul_one (x : M) : x.mul .one = x := by
  refine M.same ?_ ?_ ?_ ?_ <;> simp [M.mul, M.one]
theorem M.one_mul (x : M) : M.one.mul x = x := by
  refine M.same ?_ ?_ ?_ ?_ <;> simp [M.mul, M.one]
theorem M.det_mul (x y : M) : (x.mul y).det = x.det * y.det := by
  simp only [M.mul, M.det, Int.add_mul, Int.mul_add, Int.sub_mul, Int.mul_sub]
  have e : ∀ p q r s : Int, p * q * (r * s) = p * r * (q * s) := fun p q r s => by rw [Int.mul_assoc, Int.mul_left_comm q r s, ← Int.mul_assoc]
  have e1 := e x.a y.a x.c y.b
  have e2 : x.a * y.a * (x.d * y.d) = x.a * x.d * (y.a * y.d) := e _ _ _ _
  have e3 : x.b * y.c * (x.c * y.b) = x.b * x.c * (y.b * y.c) := by rw [e, Int.mul_comm y.c]
  have e4 : x.b * y.c * (x.d * y.d) = x.b * y.d * (x.d * y.c) := by rw [e, e x.b y.d, Int.mul_comm y.c]
  have e5 : x.a * y.b * (x.c * y.a) = x.a * y.a * (x.c * y.b) := by rw [e, e x.a y.a, Int.mul_comm y.b]
  have e6 : x.a * y.b * (x.d * y.c) = x.a * x.d * (y.b * y.c) := e _ _ _ _
  have e7 : x.b * y.d * (x.c * y.a) = x.b * x.c * (y.a * y.d) := by rw [e, Int.mul_comm y.d]
  omega
theorem M.det_inv (m : M) : m.inv.det = m.det := by
  unfold M.inv M.det
  show m.d * m.a - -m.b * -m.c = _
  rw [Int.neg_mul_neg, Int.mul_comm m.d]
theorem M.det_one : M.one.det = 1 := rfl
theorem M.mul_inv {m : M} (h : m.det = 1) : m.mul m.inv = .one := by
  unfold M.det at h
  have h1 := Int.mul_comm m.a m.b
  have h2 := Int.mul_comm m.c m.d
  have h3 := Int.mul_comm m.a m.d
  have h4 := Int.mul_comm m.b m.c
  refine M.same ?_ ?_ ?_ ?_ <;> simp only [M.mul, M.inv, M.one, Int.mul_neg] <;> omega
theorem M.inv_mul {m : M} (h : m.det = 1) : m.inv.mul m = .one := by
  unfold M.det at h
  have h1 := Int.mul_comm m.a m.b
  have h2 := Int.mul_comm m.c m.d
  have h3 := Int.mul_comm m.a m.d
  have h4 := Int.mul_comm m.b m.c
  have h5 := Int.mul_comm m.b m.d
  have h6 := Int.mul_comm m.a m.c
  refine M.same ?_ ?_ ?_ ?_ <;> simp only [M.mul, M.inv, M.one, Int.neg_mul] <;> omega
theorem M.ok_inv {m : M} (h : m.ok = true) : m.inv.ok = true := by
  obtain ⟨h1, h2, h3, h4⟩ := M.ok_iff.1 h
  refine M.ok_iff.2 ⟨h4, ?_, ?_, h1⟩ <;> (show _ ≤ -_ ∧ -_ ≤ _; omega)
theorem M.ok_one : M.one.ok = true := M.ok_iff.2 (by unfold M.one; simp)
/-- The products of entries within their limit. -/
theorem prod_le {x y : Int} (h1 : -1073741824 ≤ x) (h2 : x ≤ 1073741824) (h3 : -1073741824 ≤ y) (h4 : y ≤ 1073741824) : -1152921504606846976 ≤ x * y ∧ x * y ≤ 1152921504606846976 := by
  have h : (x * y).natAbs ≤ 1073741824 * 1073741824 := by
    rw [Int.natAbs_mul]; exact Nat.mul_le_mul (by omega) (by omega)
  omega
/-- Powers. -/
def M.pow (m : M) : Nat → M
  | 0 => .one
  | n + 1 => (m.pow n).mul m
theorem M.pow_add (m : M) (n : Nat) : ∀ k, m.pow (n + k) = (m.pow n).mul (m.pow k)
  | 0 => by rw [Nat.add_zero]; exact (M.mul_one _).symm
  | k + 1 => by
    show (m.pow (n + k)).mul m = (m.pow n).mul ((m.pow k).mul m)
    rw [M.pow_add m n k, M.mul_assoc]
theorem M.pow_succ' (m : M) (n : Nat) : m.pow (n + 1) = m.mul (m.pow n) := by
  rw [Nat.add_comm, M.pow_add]
  show (M.one.mul m).mul _ = _
  rw [M.one_mul]
/-- A power with one fewer, and the inverse. -/
theorem M.pow_inv {m : M} (h : m.det = 1) (n : Nat) : (m.pow (n + 1)).mul m.inv = m.pow n := by
  show ((m.pow n).mul m).mul m.inv = _
  rw [M.mul_assoc, M.mul_inv h, M.mul_one]
def M.zp (m : M) (n : Int) : M := if n < 0 then m.inv.pow n.natAbs else m.pow n.natAbs
theorem M.zp_nat (m : M) (n : Nat) : m.zp n = m.pow n := by
  unfold M.zp; rw [if_neg (by omega), Int.natAbs_natCast]
theorem M.inv_inv (m : M) : m.inv.inv = m := by
  refine M.same ?_ ?_ ?_ ?_ <;> simp [M.inv]
theorem M.zp_neg (m : M) (n : Nat) : m.zp (-(n : Int)) = m.inv.pow n := by
  unfold M.zp
  rcases Nat.eq_zero_or_pos n with h | h
  · subst h; rfl
  · rw [if_pos (by omega), Int.natAbs_neg, Int.natAbs_natCast]
/-- One factor more. -/
theorem M.zp_succ {m : M} (h : m.det = 1) (n : Int) : m.zp (n + 1) = (m.zp n).mul m := by
  rcases Int.lt_or_le n 0 with hn | hn
  · obtain ⟨k, rfl⟩ : ∃ k : Nat, n = -((k + 1 : Nat) : Int) := ⟨(-n).toNat - 1, by omega⟩
    rw [M.zp_neg, show -((k + 1 : Nat) : Int) + 1 = -(k : Int) by omega, M.zp_neg]
    have := M.pow_inv (m := m.inv) (by rw [M.det_inv]; exact h) k
    rw [M.inv_inv] at this
    exact this.symm
  · obtain ⟨k, rfl⟩ : ∃ k : Nat, n = (k : Int) := ⟨n.toNat, by omega⟩
    rw [M.zp_nat, show ((k : Int) + 1) = ((k + 1 : Nat) : Int) by omega, M.zp_nat]
    rfl
theorem M.zp_add_nat {m : M} (h : m.det = 1) (n : Int) : ∀ k : Nat, m.zp (n + k) = (m.zp n).mul (m.pow k)
  | 0 => by simp [M.pow, M.mul_one]
  | k + 1 => by
    rw [show n + ((k + 1 : Nat) : Int) = n + (k : Int) + 1 by omega, M.zp_succ h, M.zp_add_nat h n k, M.mul_assoc]
    rfl
theorem M.zp_sub_nat {m : M} (h : m.det = 1) (n : Int) : ∀ k : Nat, m.zp (n - k) = (m.zp n).mul (m.inv.pow k)
  | 0 => by simp [M.pow, M.mul_one]
  | k + 1 => by
    have e := M.zp_succ h (n - ((k + 1 : Nat) : Int))
    rw [show n - ((k + 1 : Nat) : Int) + 1 = n - (k : Int) by omega, M.zp_sub_nat h n k] at e
    have : (((m.zp n).mul (m.inv.pow k)).mul m.inv) = m.zp (n - ((k + 1 : Nat) : Int)) := by
      rw [e, M.mul_assoc, M.mul_inv h, M.mul_one]
    rw [← this, M.mul_assoc]
    rfl
theorem M.zp_add {m : M} (h : m.det = 1) (n k : Int) : m.zp (n + k) = (m.zp n).mul (m.zp k) := by
  rcases Int.lt_or_le k 0 with hk | hk
  · obtain ⟨j, rfl⟩ : ∃ j : Nat, k = -(j : Int) := ⟨(-k).toNat, by omega⟩
    rw [M.zp_neg]; exact M.zp_sub_nat h n j
  · obtain ⟨j, rfl⟩ : ∃ j : Nat, k = (j : Int) := ⟨k.toNat, by omega⟩
    rw [M.zp_nat]; exact M.zp_add_nat h n j
/-- Whether all powers up to the n-th are within the limits. -/
def M.powOk (m : M) : Nat → Bool
  | 0 => true
  | n + 1 => m.powOk n && (m.pow (n + 1)).ok
theorem M.powOk_ok {m : M} {n : Nat} (h : m.powOk n = true) : (m.pow n).ok = true := by
  cases n with
  | zero => exact M.ok_one
  | succ n => simp [M.powOk] at h; exact h.2
theorem M.powOk_mono {m : M} {n k : Nat} (h : m.powOk n = true) (hk : k ≤ n) : m.powOk k = true := by
  induction n with
  | zero => have : k = 0 := by omega
            subst this; exact h
  | succ n ih =>
    by_cases e : k = n + 1
    · subst e; exact h
    · simp [M.powOk] at h; exact ih h.1 (by omega)
end Go.Proofs.Ytlagljnhbhnelaa
