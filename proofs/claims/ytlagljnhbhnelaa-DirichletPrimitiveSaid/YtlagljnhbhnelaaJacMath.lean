/- The Jacobi symbol by the lemma of Gauss and Schering, for any odd modulus: multiplicative in the numerator, and reciprocity by counting points (Eisenstein). Nothing of the program. -/
import Derived.WalkKit
namespace Go.Proofs.Ytlagljnhbhnelaa

/-- The sum of f over 1, .., h. -/
def sumTo (f : Nat → Nat) : Nat → Nat
  | 0 => 0
  | h + 1 => sumTo f h + f (h + 1)
theorem sumTo_congr {f g : Nat → Nat} {h : Nat} (e : ∀ i, 1 ≤ i → i ≤ h → f i = g i) : sumTo f h = sumTo g h := by
  induction h with
  | zero => rfl
  | succ h ih =>
    simp only [sumTo]
    rw [ih (fun i h1 h2 => e i h1 (by omega)), e (h + 1) (by omega) (Nat.le_refl _)]
theorem sumTo_add (f g : Nat → Nat) (h : Nat) : sumTo (fun i => f i + g i) h = sumTo f h + sumTo g h := by
  induction h with
  | zero => rfl
  | succ h ih => simp only [sumTo, ih]; omega
theorem sumTo_mul (c : Nat) (f : Nat → Nat) (h : Nat) : sumTo (fun i => c * f i) h = c * sumTo f h := by
  induction h with
  | zero => rfl
  | succ h ih => simp only [sumTo, ih, Nat.mul_add]
theorem sumTo_const (c h : Nat) : sumTo (fun _ => c) h = h * c := by
  induction h with
  | zero => simp [sumTo]
  | succ h ih => simp only [sumTo, ih, Nat.add_mul, Nat.one_mul]
theorem sumTo_swap (f : Nat → Nat → Nat) (h k : Nat) : sumTo (fun i => sumTo (fun j => f i j) k) h = sumTo (fun j => sumTo (fun i => f i j) h) k := by
  induction h with
  | zero =>
    simp only [sumTo]
    rw [sumTo_const]
    omega
  | succ h ih => simp only [sumTo, ih]; rw [← sumTo_add]
theorem sumTo_mod {f g : Nat → Nat} {h : Nat} (e : ∀ i, 1 ≤ i → i ≤ h → f i % 2 = g i % 2) : sumTo f h % 2 = sumTo g h % 2 := by
  induction h with
  | zero => rfl
  | succ h ih =>
    simp only [sumTo]
    have h1 := ih (fun i h1 h2 => e i h1 (by omega))
    have h2 := e (h + 1) (by omega) (Nat.le_refl _)
    omega
theorem sumTo_list (f : Nat → Nat) (h : Nat) : sumTo f h = ((List.range h).map fun i => f (i + 1)).sum := by
  induction h with
  | zero => rfl
  | succ h ih => simp [sumTo, List.range_succ, ih]
/-- A one-to-one map of 1, .., h into itself only orders the sum anew. -/
theorem sumTo_perm {f : Nat → Nat} {h : Nat} {s : Nat → Nat} (hm : ∀ i, 1 ≤ i → i ≤ h → 1 ≤ s i ∧ s i ≤ h) (hi : ∀ i j, 1 ≤ i → i ≤ h → 1 ≤ j → j ≤ h → s i = s j → i = j) :
    sumTo (fun i => f (s i)) h = sumTo f h := by
  rw [sumTo_list, sumTo_list]
  have hn : ((List.range h).map fun i => s (i + 1)).Nodup := by
    rw [List.Nodup, List.pairwise_map]
    refine (List.nodup_range (n := h)).imp_of_mem ?_
    intro a b ha hb hab e
    rw [List.mem_range] at ha hb
    exact hab (by have := hi (a + 1) (b + 1) (by omega) (by omega) (by omega) (by omega) e; omega)
  have hn2 : ((List.range h).map fun i => i + 1).Nodup := by
    rw [List.Nodup, List.pairwise_map]
    refine (List.nodup_range (n := h)).imp ?_
    intro a b hab e
    exact hab (by omega)
  have hsub : ∀ x ∈ (List.range h).map (fun i => s (i + 1)), x ∈ (List.range h).map fun i => i + 1 := by
    intro x hx
    obtain ⟨i, hi', rfl⟩ := List.mem_map.1 hx
    rw [List.mem_range] at hi'
    obtain ⟨h1, h2⟩ := hm (i + 1) (by omega) (by omega)
    exact List.mem_map.2 ⟨s (i + 1) - 1, by rw [List.mem_range]; omega, by omega⟩
  have hp : ((List.range h).map fun i => s (i + 1)).Perm ((List.range h).map fun i => i + 1) := by
    rw [List.perm_ext_iff_of_nodup hn hn2]
    intro a
    refine ⟨hsub a, fun ha => Classical.byContradiction fun hna => ?_⟩
    have := List.Nodup.length_le_of_subset (l₁ := a :: (List.range h).map fun i => s (i + 1)) (l₂ := (List.range h).map fun i => i + 1) (List.nodup_cons.2 ⟨hna, hn⟩) (by
      intro x hx
      rcases List.mem_cons.1 hx with rfl | hx
      · exact ha
      · exact hsub x hx)
    simp at this
    omega
  have := (hp.map f).sum_nat
  simpa [List.map_map, Function.comp_def] using this

/-- The residue of least size, without its sign; and whether it is negative. -/
def up (n x : Nat) : Nat := if 2 * (x % n) < n then x % n else n - x % n
def ng (n x : Nat) : Nat := if 2 * (x % n) < n then 0 else 1
theorem ng_mod (n x : Nat) : ng n (x % n) = ng n x := by unfold ng; rw [Nat.mod_mod]
theorem ng_congr {n x y : Nat} (h : x % n = y % n) : ng n x = ng n y := by unfold ng; rw [h]
theorem up_rel (n x : Nat) : (ng n x = 0 ∧ up n x = x % n) ∨ (ng n x = 1 ∧ up n x = n - x % n) := by
  unfold ng up
  split
  · exact .inl ⟨rfl, rfl⟩
  · exact .inr ⟨rfl, rfl⟩
theorem cop_mod {n a i : Nat} (h : Nat.Coprime a n) (h1 : 1 ≤ i) (h2 : i < n) : a * i % n ≠ 0 := fun e => by
  have h3 := h.symm.dvd_of_dvd_mul_left (Nat.dvd_of_mod_eq_zero e)
  have := Nat.le_of_dvd (by omega) h3
  omega
theorem up_range {n a i h : Nat} (hn : n = 2 * h + 1) (hc : Nat.Coprime a n) (h1 : 1 ≤ i) (h2 : i ≤ h) : 1 ≤ up n (a * i) ∧ up n (a * i) ≤ h := by
  have hz := cop_mod hc h1 (show i < n by omega)
  have hl := Nat.mod_lt (a * i) (show 0 < n by omega)
  rcases up_rel n (a * i) with ⟨h3, h4⟩ | ⟨h3, h4⟩
  · unfold ng at h3
    split at h3
    · omega
    · omega
  · unfold ng at h3
    split at h3
    · omega
    · omega
theorem dvd_of_modEq {n x y : Nat} (h : x % n = y % n) (hle : y ≤ x) : n ∣ x - y := by
  have e1 := Nat.div_add_mod x n
  have e2 := Nat.div_add_mod y n
  have : x - y = n * (x / n) - n * (y / n) := by omega
  rw [this, ← Nat.mul_sub]
  exact Nat.dvd_mul_right _ _
theorem up_inj {n a h : Nat} (hn : n = 2 * h + 1) (hc : Nat.Coprime a n) : ∀ i j, 1 ≤ i → i ≤ h → 1 ≤ j → j ≤ h → up n (a * i) = up n (a * j) → i = j := by
  have key : ∀ i j, 1 ≤ i → i ≤ h → 1 ≤ j → j ≤ h → a * i % n = a * j % n → j ≤ i → i = j := by
    intro i j h1 h2 h3 h4 e hle
    have hd := dvd_of_modEq e (Nat.mul_le_mul_left a hle)
    rw [← Nat.mul_sub] at hd
    have hd2 := hc.symm.dvd_of_dvd_mul_left hd
    rcases Nat.eq_zero_or_pos (i - j) with hz | hz
    · omega
    · have := Nat.le_of_dvd hz hd2; omega
  have key2 : ∀ i j, 1 ≤ i → i ≤ h → 1 ≤ j → j ≤ h → a * i % n + a * j % n = n → False := by
    intro i j h1 h2 h3 h4 e
    have : (a * (i + j)) % n = 0 := by rw [Nat.mul_add, Nat.add_mod, e, Nat.mod_self]
    exact cop_mod hc (i := i + j) (by omega) (by omega) this
  intro i j h1 h2 h3 h4 e
  have l1 := Nat.mod_lt (a * i) (show 0 < n by omega)
  have l2 := Nat.mod_lt (a * j) (show 0 < n by omega)
  rcases up_rel n (a * i) with ⟨_, e1⟩ | ⟨_, e1⟩ <;> rcases up_rel n (a * j) with ⟨_, e2⟩ | ⟨_, e2⟩
  · rcases Nat.le_total j i with hl | hl
    · exact key i j h1 h2 h3 h4 (by omega) hl
    · exact (key j i h3 h4 h1 h2 (by omega) hl).symm
  · exact (key2 i j h1 h2 h3 h4 (by omega)).elim
  · exact (key2 i j h1 h2 h3 h4 (by omega)).elim
  · rcases Nat.le_total j i with hl | hl
    · exact key i j h1 h2 h3 h4 (by omega) hl
    · exact (key j i h3 h4 h1 h2 (by omega) hl).symm
theorem ng_le (n x : Nat) : ng n x ≤ 1 := by unfold ng; split <;> omega
/-- The negative of a residue has the other sign. -/
theorem ng_neg {n x y h : Nat} (hn : n = 2 * h + 1) (hx : x % n ≠ 0) (hxy : (x + y) % n = 0) : ng n x + ng n y = 1 := by
  have l1 := Nat.mod_lt x (show 0 < n by omega)
  have l2 := Nat.mod_lt y (show 0 < n by omega)
  have e : (x % n + y % n) % n = 0 := by rw [← Nat.add_mod]; exact hxy
  have e2 : x % n + y % n = n := by
    obtain ⟨t, ht⟩ := Nat.dvd_of_mod_eq_zero e
    have ht1 : t < 2 := Nat.lt_of_mul_lt_mul_left (a := n) (by omega)
    have ht0 : t ≠ 0 := by rintro rfl; omega
    have : t = 1 := by omega
    subst this
    omega
  unfold ng
  split <;> split <;> omega

/-- How many of a, 2a, .., ha are negative. -/
def mu (a n : Nat) : Nat := sumTo (fun i => ng n (a * i)) (n / 2)
theorem mu_mul {a b n : Nat} (hodd : n % 2 = 1) (ha : Nat.Coprime a n) (hb : Nat.Coprime b n) : mu (a * b) n % 2 = (mu a n + mu b n) % 2 := by
  have hn : n = 2 * (n / 2) + 1 := by omega
  unfold mu
  rw [← sumTo_perm (f := fun i => ng n (a * i)) (s := fun i => up n (b * i)) (fun i h1 h2 => up_range hn hb h1 h2) (up_inj hn hb), ← sumTo_add]
  refine sumTo_mod fun i h1 h2 => ?_
  have hz := cop_mod hb h1 (show i < n by omega)
  have hzz := cop_mod (ha.mul_left hb) h1 (show i < n by omega)
  have hl := Nat.mod_lt (b * i) (show 0 < n by omega)
  rw [Nat.mul_assoc]
  rcases up_rel n (b * i) with ⟨e1, e2⟩ | ⟨e1, e2⟩
  · rw [e1, e2]
    have : ng n (a * (b * i % n)) = ng n (a * (b * i)) := ng_congr (by rw [Nat.mul_mod, Nat.mod_mod, ← Nat.mul_mod])
    rw [this, Nat.add_zero]
  · rw [e1, e2]
    have hs : (a * (b * i) + a * (n - b * i % n)) % n = 0 := by
      rw [← Nat.mul_add]
      have e3 := Nat.div_add_mod (b * i) n
      have : b * i + (n - b * i % n) = n * (b * i / n + 1) := by rw [Nat.mul_add, Nat.mul_one]; omega
      rw [this, ← Nat.mul_assoc, Nat.mul_comm a n, Nat.mul_assoc]
      exact Nat.mul_mod_right _ _
    have := ng_neg hn (by rw [← Nat.mul_assoc]; exact hzz) hs
    omega

/-- The parity of mu is that of the sum of the integral parts (Eisenstein). -/
def fl (m n : Nat) : Nat := sumTo (fun i => m * i / n) (n / 2)
theorem mu_fl {m n : Nat} (hodd : n % 2 = 1) (hm : m % 2 = 1) (hc : Nat.Coprime m n) : mu m n % 2 = fl m n % 2 := by
  have hn : n = 2 * (n / 2) + 1 := by omega
  have hid := sumTo_perm (f := fun i => i) (s := fun i => up n (m * i)) (fun i h1 h2 => up_range hn hc h1 h2) (up_inj hn hc)
  have h1 : sumTo (fun i => m * i) (n / 2) % 2 = (sumTo (fun i => m * i / n) (n / 2) + (sumTo (fun i => up n (m * i)) (n / 2) + mu m n)) % 2 := by
    unfold mu
    rw [← sumTo_add, ← sumTo_add]
    refine sumTo_mod fun i h1 h2 => ?_
    have e3 := Nat.div_add_mod (m * i) n
    have hl := Nat.mod_lt (m * i) (show 0 < n by omega)
    have e4 : n * (m * i / n) % 2 = (m * i / n) % 2 := by rw [Nat.mul_mod, hodd, Nat.one_mul, Nat.mod_mod]
    rcases up_rel n (m * i) with ⟨e1, e2⟩ | ⟨e1, e2⟩ <;> rw [e1, e2] <;> omega
  have h2 : sumTo (fun i => m * i) (n / 2) % 2 = sumTo (fun i => i) (n / 2) % 2 := by
    refine sumTo_mod fun i _ _ => ?_
    rw [Nat.mul_mod, hm, Nat.one_mul, Nat.mod_mod]
  rw [hid] at h1
  unfold fl
  omega
theorem count_le (n x k : Nat) (hn : 0 < n) : sumTo (fun j => if n * j ≤ x then 1 else 0) k = min k (x / n) := by
  induction k with
  | zero => simp [sumTo]
  | succ k ih =>
    simp only [sumTo, ih]
    have : n * (k + 1) ≤ x ↔ k + 1 ≤ x / n := by rw [Nat.le_div_iff_mul_le hn, Nat.mul_comm]
    by_cases h : n * (k + 1) ≤ x
    · rw [if_pos h]; have := this.1 h; omega
    · rw [if_neg h]; have : ¬ k + 1 ≤ x / n := fun h' => h (this.2 h'); omega
theorem fl_recip {m n : Nat} (hn : n % 2 = 1) (hm : m % 2 = 1) (hc : Nat.Coprime m n) : fl m n + fl n m = (n / 2) * (m / 2) := by
  have f1 : fl m n = sumTo (fun i => sumTo (fun j => if n * j ≤ m * i then 1 else 0) (m / 2)) (n / 2) := by
    unfold fl
    refine sumTo_congr fun i h1 h2 => ?_
    rw [count_le _ _ _ (by omega), Nat.min_eq_right]
    refine Nat.le_of_lt_succ ((Nat.div_lt_iff_lt_mul (by omega)).2 ?_)
    have h3 : 2 * (m * i) ≤ m * (n - 1) := by rw [← Nat.mul_left_comm]; exact Nat.mul_le_mul_left m (by omega)
    have h4 : m * (n - 1) = m * n - m := by rw [Nat.mul_sub, Nat.mul_one]
    have h5 : (2 * (m / 2) + 1) * n = m * n := by rw [show 2 * (m / 2) + 1 = m by omega]
    have h6 : (2 * (m / 2) + 1) * n = 2 * (m / 2 * n) + n := by rw [Nat.add_mul, Nat.one_mul, Nat.mul_assoc]
    have h7 : (m / 2 + 1) * n = m / 2 * n + n := by rw [Nat.add_mul, Nat.one_mul]
    show m * i < (m / 2 + 1) * n
    omega
  have f2 : fl n m = sumTo (fun i => sumTo (fun j => if m * i ≤ n * j then 1 else 0) (m / 2)) (n / 2) := by
    rw [sumTo_swap]
    unfold fl
    refine sumTo_congr fun i h1 h2 => ?_
    rw [count_le _ _ _ (by omega), Nat.min_eq_right]
    refine Nat.le_of_lt_succ ((Nat.div_lt_iff_lt_mul (by omega)).2 ?_)
    have h3 : 2 * (n * i) ≤ n * (m - 1) := by rw [← Nat.mul_left_comm]; exact Nat.mul_le_mul_left n (by omega)
    have h4 : n * (m - 1) = n * m - n := by rw [Nat.mul_sub, Nat.mul_one]
    have h5 : (2 * (n / 2) + 1) * m = n * m := by rw [show 2 * (n / 2) + 1 = n by omega]
    have h6 : (2 * (n / 2) + 1) * m = 2 * (n / 2 * m) + m := by rw [Nat.add_mul, Nat.one_mul, Nat.mul_assoc]
    have h7 : (n / 2 + 1) * m = n / 2 * m + m := by rw [Nat.add_mul, Nat.one_mul]
    show n * i < (n / 2 + 1) * m
    omega
  rw [f1, f2, ← sumTo_add, ← sumTo_const (m / 2) (n / 2)]
  refine sumTo_congr fun i h1 h2 => ?_
  have he : sumTo (fun _ => 1) (m / 2) = m / 2 := by rw [sumTo_const, Nat.mul_one]
  rw [← sumTo_add]
  refine Eq.trans (sumTo_congr fun j h3 h4 => ?_) he
  have hne : m * i ≠ n * j := fun e => by
    have : n ∣ m * i := ⟨j, e⟩
    have := Nat.le_of_dvd (by omega) (hc.symm.dvd_of_dvd_mul_left this)
    omega
  by_cases h : n * j ≤ m * i
  · rw [if_pos h, if_neg (by omega)]
  · rw [if_neg h, if_pos (by omega)]
theorem mu_recip {m n : Nat} (hn : n % 2 = 1) (hm : m % 2 = 1) (hc : Nat.Coprime m n) : (mu m n + mu n m) % 2 = (n / 2) * (m / 2) % 2 := by
  have h1 := mu_fl hn hm hc
  have h2 := mu_fl hm hn hc.symm
  have h3 := fl_recip hn hm hc
  omega

/-- The Jacobi symbol (a/n), n odd. -/
def jac (a n : Nat) : Int := if Nat.gcd a n = 1 then (if mu a n % 2 = 0 then 1 else -1) else 0
theorem jac_mod (a n : Nat) : jac (a % n) n = jac a n := by
  have e1 : Nat.gcd (a % n) n = Nat.gcd a n := by rw [Nat.gcd_comm a n, Nat.gcd_rec n a]
  have e2 : mu (a % n) n = mu a n := by
    unfold mu
    refine sumTo_congr fun i _ _ => ng_congr ?_
    rw [Nat.mul_mod, Nat.mod_mod, ← Nat.mul_mod]
  unfold jac
  simp only [e1, e2]
theorem jac_congr {a b n : Nat} (h : a % n = b % n) : jac a n = jac b n := by rw [← jac_mod a n, h, jac_mod]
theorem jac_mul (a b n : Nat) (hodd : n % 2 = 1) : jac (a * b) n = jac a n * jac b n := by
  unfold jac
  by_cases ha : Nat.gcd a n = 1
  · by_cases hb : Nat.gcd b n = 1
    · have hab : Nat.gcd (a * b) n = 1 := Nat.Coprime.mul_left ha hb
      rw [if_pos ha, if_pos hb, if_pos hab]
      have := mu_mul hodd ha hb
      have h1 := Nat.mod_two_eq_zero_or_one (mu a n)
      have h2 := Nat.mod_two_eq_zero_or_one (mu b n)
      rcases h1 with h1 | h1 <;> rcases h2 with h2 | h2 <;> simp only [h1, h2] <;>
        (first | (rw [if_pos (by omega)]; rfl) | (rw [if_neg (by omega)]; rfl))
    · have hab : Nat.gcd (a * b) n ≠ 1 := fun e => hb (Nat.Coprime.coprime_mul_left e)
      rw [if_neg hb, if_neg hab, Int.mul_zero]
  · have hab : Nat.gcd (a * b) n ≠ 1 := fun e => ha (Nat.Coprime.coprime_mul_right e)
    rw [if_neg ha, if_neg hab, Int.zero_mul]
theorem jac_cases (a n : Nat) : jac a n = 0 ∨ jac a n = 1 ∨ jac a n = -1 := by
  unfold jac
  split
  · split
    · exact .inr (.inl rfl)
    · exact .inr (.inr rfl)
  · exact .inl rfl
/-- Reciprocity. -/
theorem jac_recip {m n : Nat} (hn : n % 2 = 1) (hm : m % 2 = 1) : jac m n = (if m % 4 = 3 ∧ n % 4 = 3 then -1 else 1) * jac n m := by
  unfold jac
  by_cases hc : Nat.gcd m n = 1
  · have hc' : Nat.gcd n m = 1 := by rw [Nat.gcd_comm]; exact hc
    rw [if_pos hc, if_pos hc']
    have h := mu_recip hn hm hc
    have e : (n / 2) * (m / 2) % 2 = if m % 4 = 3 ∧ n % 4 = 3 then 1 else 0 := by
      rw [Nat.mul_mod]
      have h1 := Nat.mod_two_eq_zero_or_one (n / 2)
      have h2 := Nat.mod_two_eq_zero_or_one (m / 2)
      split
      · rename_i h3
        rw [show n / 2 % 2 = 1 by omega, show m / 2 % 2 = 1 by omega]
      · rename_i h3
        rcases h1 with h1 | h1
        · rw [h1]; simp
        · rcases h2 with h2 | h2
          · rw [h2]; simp
          · exact absurd ⟨by omega, by omega⟩ h3
    rw [e] at h
    have h1 := Nat.mod_two_eq_zero_or_one (mu m n)
    have h2 := Nat.mod_two_eq_zero_or_one (mu n m)
    by_cases hq : m % 4 = 3 ∧ n % 4 = 3
    · rw [if_pos hq] at h ⊢
      rcases h1 with h1 | h1 <;> rcases h2 with h2 | h2 <;> simp only [h1, h2] <;> first | omega | simp
    · rw [if_neg hq] at h ⊢
      rcases h1 with h1 | h1 <;> rcases h2 with h2 | h2 <;> simp only [h1, h2] <;> first | omega | simp
  · have hc' : Nat.gcd n m ≠ 1 := by rw [Nat.gcd_comm]; exact hc
    rw [if_neg hc, if_neg hc', Int.mul_zero]
/-- (2/n). -/
def two8 (n : Nat) : Int := if n % 8 = 1 ∨ n % 8 = 7 then 1 else -1
theorem count_gt (c k : Nat) : sumTo (fun i => if c < 2 * i then 1 else 0) k = k - min k (c / 2) := by
  induction k with
  | zero => simp [sumTo]
  | succ k ih =>
    simp only [sumTo, ih]
    by_cases h : c < 2 * (k + 1)
    · rw [if_pos h]; omega
    · rw [if_neg h]; omega
theorem jac_two {n : Nat} (hn : n % 2 = 1) : jac 2 n = two8 n := by
  have hg : Nat.gcd 2 n = 1 := by
    have h1 := Nat.gcd_dvd_left 2 n
    have h2 := Nat.gcd_dvd_right 2 n
    have h3 := Nat.le_of_dvd (by decide) h1
    have h4 : Nat.gcd 2 n ≠ 0 := fun e => by rw [e] at h1; have := Nat.eq_zero_of_zero_dvd h1; omega
    have h5 : Nat.gcd 2 n ≠ 2 := fun e => by rw [e] at h2; have := Nat.mod_eq_zero_of_dvd h2; omega
    omega
  have hm : mu 2 n = n / 2 - min (n / 2) (n / 2 / 2) := by
    unfold mu
    rw [← count_gt]
    refine sumTo_congr fun i h1 h2 => ?_
    unfold ng
    rw [Nat.mod_eq_of_lt (show 2 * i < n by omega)]
    by_cases h : n / 2 < 2 * i
    · rw [if_neg (by omega), if_pos h]
    · rw [if_pos (by omega), if_neg h]
  unfold jac two8
  rw [if_pos hg, hm]
  have h8 : n % 8 = 1 ∨ n % 8 = 3 ∨ n % 8 = 5 ∨ n % 8 = 7 := by omega
  rcases h8 with h | h | h | h
  · rw [if_pos (by omega), if_pos (by omega)]
  · rw [if_neg (by omega), if_neg (by omega)]
  · rw [if_neg (by omega), if_neg (by omega)]
  · rw [if_pos (by omega), if_pos (by omega)]
/-- (-1/n): n - 1 is -1. -/
theorem jac_neg {n : Nat} (hn : n % 2 = 1) : jac (n - 1) n = if n % 4 = 3 then -1 else 1 := by
  have hg : Nat.gcd (n - 1) n = 1 := by
    obtain ⟨k, rfl⟩ : ∃ k, n = k + 1 := ⟨n - 1, by omega⟩
    show Nat.gcd k (k + 1) = 1
    rw [Nat.gcd_rec, Nat.gcd_rec]
    by_cases hk : k = 0
    · subst hk; rfl
    · by_cases hk1 : k = 1
      · subst hk1; rfl
      · rw [Nat.add_mod_left, Nat.mod_eq_of_lt (show 1 < k by omega), Nat.mod_one, Nat.gcd_zero_left]
  have hm : mu (n - 1) n = n / 2 := by
    unfold mu
    have : sumTo (fun i => ng n ((n - 1) * i)) (n / 2) = sumTo (fun _ => 1) (n / 2) := by
      refine sumTo_congr fun i h1 h2 => ?_
      have e : (n - 1) * i % n = n - i := by
        have e1 : (n - 1) * i = (n - i) + n * (i - 1) := by
          rw [Nat.sub_mul, Nat.mul_sub, Nat.one_mul, Nat.mul_one]
          have : n * 1 ≤ n * i := Nat.mul_le_mul_left n h1
          omega
        rw [e1, Nat.add_mul_mod_self_left, Nat.mod_eq_of_lt (by omega)]
      unfold ng
      rw [e, if_neg (by omega)]
    rw [this, sumTo_const, Nat.mul_one]
  unfold jac
  rw [if_pos hg, hm]
  split
  · rw [if_neg (by omega)]
  · rw [if_pos (by omega)]
theorem jac_zero (n : Nat) : jac 0 n = if n = 1 then 1 else 0 := by
  unfold jac
  simp only [Nat.gcd_zero_left]
  split
  · rename_i h
    subst h
    rfl
  · rfl
theorem jac_one (a : Nat) : jac a 1 = 1 := by
  unfold jac
  rw [if_pos (Nat.gcd_one_right a)]
  rfl
/-- Multiplicative in the modulus, by reciprocity. -/
theorem jac_mul_right (a m n : Nat) (hm : m % 2 = 1) (hn : n % 2 = 1) (ha : a % 2 = 1) : jac a (m * n) = jac a m * jac a n := by
  have hmn : m * n % 2 = 1 := by rw [Nat.mul_mod, hm, hn]
  rw [jac_recip hmn ha, jac_recip hm ha, jac_recip hn ha, jac_mul m n a ha]
  have e4 : m * n % 4 = (m % 4) * (n % 4) % 4 := Nat.mul_mod _ _ _
  have h1 : m % 4 = 1 ∨ m % 4 = 3 := by omega
  have h2 : n % 4 = 1 ∨ n % 4 = 3 := by omega
  by_cases h3 : a % 4 = 3
  · rcases h1 with h1 | h1 <;> rcases h2 with h2 | h2 <;> rw [h1, h2] at e4 <;> simp [h3, h1, h2, e4, Int.mul_neg, Int.neg_mul]
  · simp [h3]
end Go.Proofs.Ytlagljnhbhnelaa
