/- The Jacobi symbol by the lemma of Gauss and Schering, for any odd modulus: multiplicative in the numerator, and reciprocity by counting points (Eisenstein). Nothing of the program. Contracts of symbolOfTwo, jacobi and Kronecker. The contracts of arith's Phi and Psi, of cusps.Count0 and of signature's roots and pairs, for levels. The contracts of cusps.Count0 and of signature.pairs, for levels. The contracts of signature's withGenus, Formula0 and Formula1. -/
import Derived.Test.YtmikhkolbkdnpaaArL
import Derived.Test.YtmikhkolbkdnpaaGcdL
import Derived.Test.YtmikhkolbkdnpaaLawK
import Derived.WalkKit
import Derived.Deep.OwnRows
import Derived.Laws.MakeOwn
import Derived.Deep.Cut
import Derived.WalkSmall
import Derived.Deep.DeepCutAuto
import Derived.Deep.CutBlock
import Derived.Deep.RegionHeld3
import Derived.IntWalk
namespace Go.Proofs.Ytmikhkolbkdnpaa

/-- The sum of f over 1, .., h. -/
def sumTo (f : Nat → Nat) : Nat → Nat
  | 0 => 0
  | h + 1 => sumTo f h + f (h + 1)
theorem sumTo_congr {f g : Nat → Nat} {h : Nat} (e : ∀ i, 1 ≤ i → i ≤ h → f i = g i) : sumTo f h = sumTo g h := by
  induction h with
  | zero => rfl
  | succ h ih =>
    simp only [sumTo]
    rw [ih (fun i h1 h2 => e i h1 (by omega)), e (h + 1) (by omega) (Nat.le_refl _)]
theorem sumTo_add (f g : Nat → Nat) (h : Nat) : sumTo (fun i => f i + g i) h = sumTo f h + sumTo g h := by
  induction h with
  | zero => rfl
  | succ h ih => simp only [sumTo, ih]; omega
theorem sumTo_mul (c : Nat) (f : Nat → Nat) (h : Nat) : sumTo (fun i => c * f i) h = c * sumTo f h := by
  induction h with
  | zero => rfl
  | succ h ih => simp only [sumTo, ih, Nat.mul_add]
theorem sumTo_const (c h : Nat) : sumTo (fun _ => c) h = h * c := by
  induction h with
  | zero => simp [sumTo]
  | succ h ih => simp only [sumTo, ih, Nat.add_mul, Nat.one_mul]
theorem sumTo_swap (f : Nat → Nat → Nat) (h k : Nat) : sumTo (fun i => sumTo (fun j => f i j) k) h = sumTo (fun j => sumTo (fun i => f i j) h) k := by
  induction h with
  | zero =>
    simp only [sumTo]
    rw [sumTo_const]
    omega
  | succ h ih => simp only [sumTo, ih]; rw [← sumTo_add]
theorem sumTo_mod {f g : Nat → Nat} {h : Nat} (e : ∀ i, 1 ≤ i → i ≤ h → f i % 2 = g i % 2) : sumTo f h % 2 = sumTo g h % 2 := by
  induction h with
  | zero => rfl
  | succ h ih =>
    simp only [sumTo]
    have h1 := ih (fun i h1 h2 => e i h1 (by omega))
    have h2 := e (h + 1) (by omega) (Nat.le_refl _)
    omega
theorem sumTo_list (f : Nat → Nat) (h : Nat) : sumTo f h = ((List.range h).map fun i => f (i + 1)).sum := by
  induction h with
  | zero => rfl
  | succ h ih => simp [sumTo, List.range_succ, ih]
/-- A one-to-one map of 1, .., h into itself only orders the sum anew. -/
theorem sumTo_perm {f : Nat → Nat} {h : Nat} {s : Nat → Nat} (hm : ∀ i, 1 ≤ i → i ≤ h → 1 ≤ s i ∧ s i ≤ h) (hi : ∀ i j, 1 ≤ i → i ≤ h → 1 ≤ j → j ≤ h → s i = s j → i = j) :
    sumTo (fun i => f (s i)) h = sumTo f h := by
  rw [sumTo_list, sumTo_list]
  have hn : ((List.range h).map fun i => s (i + 1)).Nodup := by
    rw [List.Nodup, List.pairwise_map]
    refine (List.nodup_range (n := h)).imp_of_mem ?_
    intro a b ha hb hab e
    rw [List.mem_range] at ha hb
    exact hab (by have := hi (a + 1) (b + 1) (by omega) (by omega) (by omega) (by omega) e; omega)
  have hn2 : ((List.range h).map fun i => i + 1).Nodup := by
    rw [List.Nodup, List.pairwise_map]
    refine (List.nodup_range (n := h)).imp ?_
    intro a b hab e
    exact hab (by omega)
  have hsub : ∀ x ∈ (List.range h).map (fun i => s (i + 1)), x ∈ (List.range h).map fun i => i + 1 := by
    intro x hx
    obtain ⟨i, hi', rfl⟩ := List.mem_map.1 hx
    rw [List.mem_range] at hi'
    obtain ⟨h1, h2⟩ := hm (i + 1) (by omega) (by omega)
    exact List.mem_map.2 ⟨s (i + 1) - 1, by rw [List.mem_range]; omega, by omega⟩
  have hp : ((List.range h).map fun i => s (i + 1)).Perm ((List.range h).map fun i => i + 1) := by
    rw [List.perm_ext_iff_of_nodup hn hn2]
    intro a
    refine ⟨hsub a, fun ha => Classical.byContradiction fun hna => ?_⟩
    have := List.Nodup.length_le_of_subset (l₁ := a :: (List.range h).map fun i => s (i + 1)) (l₂ := (List.range h).map fun i => i + 1) (List.nodup_cons.2 ⟨hna, hn⟩) (by
      intro x hx
      rcases List.mem_cons.1 hx with rfl | hx
      · exact ha
      · exact hsub x hx)
    simp at this
    omega
  have := (hp.map f).sum_nat
  simpa [List.map_map, Function.comp_def] using this

/-- The residue of least size, without its sign; and whether it is negative. -/
def up (n x : Nat) : Nat := if 2 * (x % n) < n then x % n else n - x % n
def ng (n x : Nat) : Nat := if 2 * (x % n) < n then 0 else 1
theorem ng_mod (n x : Nat) : ng n (x % n) = ng n x := by unfold ng; rw [Nat.mod_mod]
theorem ng_congr {n x y : Nat} (h : x % n = y % n) : ng n x = ng n y := by unfold ng; rw [h]
theorem up_rel (n x : Nat) : (ng n x = 0 ∧ up n x = x % n) ∨ (ng n x = 1 ∧ up n x = n - x % n) := by
  unfold ng up
  split
  · exact .inl ⟨rfl, rfl⟩
  · exact .inr ⟨rfl, rfl⟩
theorem cop_modJ {n a i : Nat} (h : Nat.Coprime a n) (h1 : 1 ≤ i) (h2 : i < n) : a * i % n ≠ 0 := fun e => by
  have h3 := h.symm.dvd_of_dvd_mul_left (Nat.dvd_of_mod_eq_zero e)
  have := Nat.le_of_dvd (by omega) h3
  omega
theorem up_range {n a i h : Nat} (hn : n = 2 * h + 1) (hc : Nat.Coprime a n) (h1 : 1 ≤ i) (h2 : i ≤ h) : 1 ≤ up n (a * i) ∧ up n (a * i) ≤ h := by
  have hz := cop_modJ hc h1 (show i < n by omega)
  have hl := Nat.mod_lt (a * i) (show 0 < n by omega)
  rcases up_rel n (a * i) with ⟨h3, h4⟩ | ⟨h3, h4⟩
  · unfold ng at h3
    split at h3
    · omega
    · omega
  · unfold ng at h3
    split at h3
    · omega
    · omega
theorem dvd_of_modEq {n x y : Nat} (h : x % n = y % n) (hle : y ≤ x) : n ∣ x - y := by
  have e1 := Nat.div_add_mod x n
  have e2 := Nat.div_add_mod y n
  have : x - y = n * (x / n) - n * (y / n) := by omega
  rw [this, ← Nat.mul_sub]
  exact Nat.dvd_mul_right _ _
theorem up_inj {n a h : Nat} (hn : n = 2 * h + 1) (hc : Nat.Coprime a n) : ∀ i j, 1 ≤ i → i ≤ h → 1 ≤ j → j ≤ h → up n (a * i) = up n (a * j) → i = j := by
  have key : ∀ i j, 1 ≤ i → i ≤ h → 1 ≤ j → j ≤ h → a * i % n = a * j % n → j ≤ i → i = j := by
    intro i j h1 h2 h3 h4 e hle
    have hd := dvd_of_modEq e (Nat.mul_le_mul_left a hle)
    rw [← Nat.mul_sub] at hd
    have hd2 := hc.symm.dvd_of_dvd_mul_left hd
    rcases Nat.eq_zero_or_pos (i - j) with hz | hz
    · omega
    · have := Nat.le_of_dvd hz hd2; omega
  have key2 : ∀ i j, 1 ≤ i → i ≤ h → 1 ≤ j → j ≤ h → a * i % n + a * j % n = n → False := by
    intro i j h1 h2 h3 h4 e
    have : (a * (i + j)) % n = 0 := by rw [Nat.mul_add, Nat.add_mod, e, Nat.mod_self]
    exact cop_modJ hc (i := i + j) (by omega) (by omega) this
  intro i j h1 h2 h3 h4 e
  have l1 := Nat.mod_lt (a * i) (show 0 < n by omega)
  have l2 := Nat.mod_lt (a * j) (show 0 < n by omega)
  rcases up_rel n (a * i) with ⟨_, e1⟩ | ⟨_, e1⟩ <;> rcases up_rel n (a * j) with ⟨_, e2⟩ | ⟨_, e2⟩
  · rcases Nat.le_total j i with hl | hl
    · exact key i j h1 h2 h3 h4 (by omega) hl
    · exact (key j i h3 h4 h1 h2 (by omega) hl).symm
  · exact (key2 i j h1 h2 h3 h4 (by omega)).elim
  · exact (key2 i j h1 h2 h3 h4 (by omega)).elim
  · rcases Nat.le_total j i with hl | hl
    · exact key i j h1 h2 h3 h4 (by omega) hl
    · exact (key j i h3 h4 h1 h2 (by omega) hl).symm
theorem ng_le (n x : Nat) : ng n x ≤ 1 := by unfold ng; split <;> omega
/-- The negative of a residue has the other sign. -/
theorem ng_neg {n x y h : Nat} (hn : n = 2 * h + 1) (hx : x % n ≠ 0) (hxy : (x + y) % n = 0) : ng n x + ng n y = 1 := by
  have l1 := Nat.mod_lt x (show 0 < n by omega)
  have l2 := Nat.mod_lt y (show 0 < n by omega)
  have e : (x % n + y % n) % n = 0 := by rw [← Nat.add_mod]; exact hxy
  have e2 : x % n + y % n = n := by
    obtain ⟨t, ht⟩ := Nat.dvd_of_mod_eq_zero e
    have ht1 : t < 2 := Nat.lt_of_mul_lt_mul_left (a := n) (by omega)
    have ht0 : t ≠ 0 := by rintro rfl; omega
    have : t = 1 := by omega
    subst this
    omega
  unfold ng
  split <;> split <;> omega

/-- How many of a, 2a, .., ha are negative. -/
def mu (a n : Nat) : Nat := sumTo (fun i => ng n (a * i)) (n / 2)
theorem mu_mul {a b n : Nat} (hodd : n % 2 = 1) (ha : Nat.Coprime a n) (hb : Nat.Coprime b n) : mu (a * b) n % 2 = (mu a n + mu b n) % 2 := by
  have hn : n = 2 * (n / 2) + 1 := by omega
  unfold mu
  rw [← sumTo_perm (f := fun i => ng n (a * i)) (s := fun i => up n (b * i)) (fun i h1 h2 => up_range hn hb h1 h2) (up_inj hn hb), ← sumTo_add]
  refine sumTo_mod fun i h1 h2 => ?_
  have hz := cop_modJ hb h1 (show i < n by omega)
  have hzz := cop_modJ (ha.mul_left hb) h1 (show i < n by omega)
  have hl := Nat.mod_lt (b * i) (show 0 < n by omega)
  rw [Nat.mul_assoc]
  rcases up_rel n (b * i) with ⟨e1, e2⟩ | ⟨e1, e2⟩
  · rw [e1, e2]
    have : ng n (a * (b * i % n)) = ng n (a * (b * i)) := ng_congr (by rw [Nat.mul_mod, Nat.mod_mod, ← Nat.mul_mod])
    rw [this, Nat.add_zero]
  · rw [e1, e2]
    have hs : (a * (b * i) + a * (n - b * i % n)) % n = 0 := by
      rw [← Nat.mul_add]
      have e3 := Nat.div_add_mod (b * i) n
      have : b * i + (n - b * i % n) = n * (b * i / n + 1) := by rw [Nat.mul_add, Nat.mul_one]; omega
      rw [this, ← Nat.mul_assoc, Nat.mul_comm a n, Nat.mul_assoc]
      exact Nat.mul_mod_right _ _
    have := ng_neg hn (by rw [← Nat.mul_assoc]; exact hzz) hs
    omega

/-- The parity of mu is that of the sum of the integral parts (Eisenstein). -/
def fl (m n : Nat) : Nat := sumTo (fun i => m * i / n) (n / 2)
theorem mu_fl {m n : Nat} (hodd : n % 2 = 1) (hm : m % 2 = 1) (hc : Nat.Coprime m n) : mu m n % 2 = fl m n % 2 := by
  have hn : n = 2 * (n / 2) + 1 := by omega
  have hid := sumTo_perm (f := fun i => i) (s := fun i => up n (m * i)) (fun i h1 h2 => up_range hn hc h1 h2) (up_inj hn hc)
  have h1 : sumTo (fun i => m * i) (n / 2) % 2 = (sumTo (fun i => m * i / n) (n / 2) + (sumTo (fun i => up n (m * i)) (n / 2) + mu m n)) % 2 := by
    unfold mu
    rw [← sumTo_add, ← sumTo_add]
    refine sumTo_mod fun i h1 h2 => ?_
    have e3 := Nat.div_add_mod (m * i) n
    have hl := Nat.mod_lt (m * i) (show 0 < n by omega)
    have e4 : n * (m * i / n) % 2 = (m * i / n) % 2 := by rw [Nat.mul_mod, hodd, Nat.one_mul, Nat.mod_mod]
    rcases up_rel n (m * i) with ⟨e1, e2⟩ | ⟨e1, e2⟩ <;> rw [e1, e2] <;> omega
  have h2 : sumTo (fun i => m * i) (n / 2) % 2 = sumTo (fun i => i) (n / 2) % 2 := by
    refine sumTo_mod fun i _ _ => ?_
    rw [Nat.mul_mod, hm, Nat.one_mul, Nat.mod_mod]
  rw [hid] at h1
  unfold fl
  omega
theorem count_le (n x k : Nat) (hn : 0 < n) : sumTo (fun j => if n * j ≤ x then 1 else 0) k = min k (x / n) := by
  induction k with
  | zero => simp [sumTo]
  | succ k ih =>
    simp only [sumTo, ih]
    have : n * (k + 1) ≤ x ↔ k + 1 ≤ x / n := by rw [Nat.le_div_iff_mul_le hn, Nat.mul_comm]
    by_cases h : n * (k + 1) ≤ x
    · rw [if_pos h]; have := this.1 h; omega
    · rw [if_neg h]; have : ¬ k + 1 ≤ x / n := fun h' => h (this.2 h'); omega
theorem fl_recip {m n : Nat} (hn : n % 2 = 1) (hm : m % 2 = 1) (hc : Nat.Coprime m n) : fl m n + fl n m = (n / 2) * (m / 2) := by
  have f1 : fl m n = sumTo (fun i => sumTo (fun j => if n * j ≤ m * i then 1 else 0) (m / 2)) (n / 2) := by
    unfold fl
    refine sumTo_congr fun i h1 h2 => ?_
    rw [count_le _ _ _ (by omega), Nat.min_eq_right]
    refine Nat.le_of_lt_succ ((Nat.div_lt_iff_lt_mul (by omega)).2 ?_)
    have h3 : 2 * (m * i) ≤ m * (n - 1) := by rw [← Nat.mul_left_comm]; exact Nat.mul_le_mul_left m (by omega)
    have h4 : m * (n - 1) = m * n - m := by rw [Nat.mul_sub, Nat.mul_one]
    have h5 : (2 * (m / 2) + 1) * n = m * n := by rw [show 2 * (m / 2) + 1 = m by omega]
    have h6 : (2 * (m / 2) + 1) * n = 2 * (m / 2 * n) + n := by rw [Nat.add_mul, Nat.one_mul, Nat.mul_assoc]
    have h7 : (m / 2 + 1) * n = m / 2 * n + n := by rw [Nat.add_mul, Nat.one_mul]
    show m * i < (m / 2 + 1) * n
    omega
  have f2 : fl n m = sumTo (fun i => sumTo (fun j => if m * i ≤ n * j then 1 else 0) (m / 2)) (n / 2) := by
    rw [sumTo_swap]
    unfold fl
    refine sumTo_congr fun i h1 h2 => ?_
    rw [count_le _ _ _ (by omega), Nat.min_eq_right]
    refine Nat.le_of_lt_succ ((Nat.div_lt_iff_lt_mul (by omega)).2 ?_)
    have h3 : 2 * (n * i) ≤ n * (m - 1) := by rw [← Nat.mul_left_comm]; exact Nat.mul_le_mul_left n (by omega)
    have h4 : n * (m - 1) = n * m - n := by rw [Nat.mul_sub, Nat.mul_one]
    have h5 : (2 * (n / 2) + 1) * m = n * m := by rw [show 2 * (n / 2) + 1 = n by omega]
    have h6 : (2 * (n / 2) + 1) * m = 2 * (n / 2 * m) + m := by rw [Nat.add_mul, Nat.one_mul, Nat.mul_assoc]
    have h7 : (n / 2 + 1) * m = n / 2 * m + m := by rw [Nat.add_mul, Nat.one_mul]
    show n * i < (n / 2 + 1) * m
    omega
  rw [f1, f2, ← sumTo_add, ← sumTo_const (m / 2) (n / 2)]
  refine sumTo_congr fun i h1 h2 => ?_
  have he : sumTo (fun _ => 1) (m / 2) = m / 2 := by rw [sumTo_const, Nat.mul_one]
  rw [← sumTo_add]
  refine Eq.trans (sumTo_congr fun j h3 h4 => ?_) he
  have hne : m * i ≠ n * j := fun e => by
    have : n ∣ m * i := ⟨j, e⟩
    have := Nat.le_of_dvd (by omega) (hc.symm.dvd_of_dvd_mul_left this)
    omega
  by_cases h : n * j ≤ m * i
  · rw [if_pos h, if_neg (by omega)]
  · rw [if_neg h, if_pos (by omega)]
theorem mu_recip {m n : Nat} (hn : n % 2 = 1) (hm : m % 2 = 1) (hc : Nat.Coprime m n) : (mu m n + mu n m) % 2 = (n / 2) * (m / 2) % 2 := by
  have h1 := mu_fl hn hm hc
  have h2 := mu_fl hm hn hc.symm
  have h3 := fl_recip hn hm hc
  omega

/-- The Jacobi symbol (a/n), n odd. -/
def jac (a n : Nat) : Int := if Nat.gcd a n = 1 then (if mu a n % 2 = 0 then 1 else -1) else 0
theorem jac_mod (a n : Nat) : jac (a % n) n = jac a n := by
  have e1 : Nat.gcd (a % n) n = Nat.gcd a n := by rw [Nat.gcd_comm a n, Nat.gcd_rec n a]
  have e2 : mu (a % n) n = mu a n := by
    unfold mu
    refine sumTo_congr fun i _ _ => ng_congr ?_
    rw [Nat.mul_mod, Nat.mod_mod, ← Nat.mul_mod]
  unfold jac
  simp only [e1, e2]
theorem jac_congr {a b n : Nat} (h : a % n = b % n) : jac a n = jac b n := by rw [← jac_mod a n, h, jac_mod]
theorem jac_mul (a b n : Nat) (hodd : n % 2 = 1) : jac (a * b) n = jac a n * jac b n := by
  unfold jac
  by_cases ha : Nat.gcd a n = 1
  · by_cases hb : Nat.gcd b n = 1
    · have hab : Nat.gcd (a * b) n = 1 := Nat.Coprime.mul_left ha hb
      rw [if_pos ha, if_pos hb, if_pos hab]
      have := mu_mul hodd ha hb
      have h1 := Nat.mod_two_eq_zero_or_one (mu a n)
      have h2 := Nat.mod_two_eq_zero_or_one (mu b n)
      rcases h1 with h1 | h1 <;> rcases h2 with h2 | h2 <;> simp only [h1, h2] <;>
        (first | (rw [if_pos (by omega)]; rfl) | (rw [if_neg (by omega)]; rfl))
    · have hab : Nat.gcd (a * b) n ≠ 1 := fun e => hb (Nat.Coprime.coprime_mul_left e)
      rw [if_neg hb, if_neg hab, Int.mul_zero]
  · have hab : Nat.gcd (a * b) n ≠ 1 := fun e => ha (Nat.Coprime.coprime_mul_right e)
    rw [if_neg ha, if_neg hab, Int.zero_mul]
theorem jac_cases (a n : Nat) : jac a n = 0 ∨ jac a n = 1 ∨ jac a n = -1 := by
  unfold jac
  split
  · split
    · exact .inr (.inl rfl)
    · exact .inr (.inr rfl)
  · exact .inl rfl
/-- Reciprocity. -/
theorem jac_recip {m n : Nat} (hn : n % 2 = 1) (hm : m % 2 = 1) : jac m n = (if m % 4 = 3 ∧ n % 4 = 3 then -1 else 1) * jac n m := by
  unfold jac
  by_cases hc : Nat.gcd m n = 1
  · have hc' : Nat.gcd n m = 1 := by rw [Nat.gcd_comm]; exact hc
    rw [if_pos hc, if_pos hc']
    have h := mu_recip hn hm hc
    have e : (n / 2) * (m / 2) % 2 = if m % 4 = 3 ∧ n % 4 = 3 then 1 else 0 := by
      rw [Nat.mul_mod]
      have h1 := Nat.mod_two_eq_zero_or_one (n / 2)
      have h2 := Nat.mod_two_eq_zero_or_one (m / 2)
      split
      · rename_i h3
        rw [show n / 2 % 2 = 1 by omega, show m / 2 % 2 = 1 by omega]
      · rename_i h3
        rcases h1 with h1 | h1
        · rw [h1]; simp
        · rcases h2 with h2 | h2
          · rw [h2]; simp
          · exact absurd ⟨by omega, by omega⟩ h3
    rw [e] at h
    have h1 := Nat.mod_two_eq_zero_or_one (mu m n)
    have h2 := Nat.mod_two_eq_zero_or_one (mu n m)
    by_cases hq : m % 4 = 3 ∧ n % 4 = 3
    · rw [if_pos hq] at h ⊢
      rcases h1 with h1 | h1 <;> rcases h2 with h2 | h2 <;> simp only [h1, h2] <;> first | omega | simp
    · rw [if_neg hq] at h ⊢
      rcases h1 with h1 | h1 <;> rcases h2 with h2 | h2 <;> simp only [h1, h2] <;> first | omega | simp
  · have hc' : Nat.gcd n m ≠ 1 := by rw [Nat.gcd_comm]; exact hc
    rw [if_neg hc, if_neg hc', Int.mul_zero]
/-- (2/n). -/
def two8 (n : Nat) : Int := if n % 8 = 1 ∨ n % 8 = 7 then 1 else -1
theorem count_gt (c k : Nat) : sumTo (fun i => if c < 2 * i then 1 else 0) k = k - min k (c / 2) := by
  induction k with
  | zero => simp [sumTo]
  | succ k ih =>
    simp only [sumTo, ih]
    by_cases h : c < 2 * (k + 1)
    · rw [if_pos h]; omega
    · rw [if_neg h]; omega
theorem jac_two {n : Nat} (hn : n % 2 = 1) : jac 2 n = two8 n := by
  have hg : Nat.gcd 2 n = 1 := by
    have h1 := Nat.gcd_dvd_left 2 n
    have h2 := Nat.gcd_dvd_right 2 n
    have h3 := Nat.le_of_dvd (by decide) h1
    have h4 : Nat.gcd 2 n ≠ 0 := fun e => by rw [e] at h1; have := Nat.eq_zero_of_zero_dvd h1; omega
    have h5 : Nat.gcd 2 n ≠ 2 := fun e => by rw [e] at h2; have := Nat.mod_eq_zero_of_dvd h2; omega
    omega
  have hm : mu 2 n = n / 2 - min (n / 2) (n / 2 / 2) := by
    unfold mu
    rw [← count_gt]
    refine sumTo_congr fun i h1 h2 => ?_
    unfold ng
    rw [Nat.mod_eq_of_lt (show 2 * i < n by omega)]
    by_cases h : n / 2 < 2 * i
    · rw [if_neg (by omega), if_pos h]
    · rw [if_pos (by omega), if_neg h]
  unfold jac two8
  rw [if_pos hg, hm]
  have h8 : n % 8 = 1 ∨ n % 8 = 3 ∨ n % 8 = 5 ∨ n % 8 = 7 := by omega
  rcases h8 with h | h | h | h
  · rw [if_pos (by omega), if_pos (by omega)]
  · rw [if_neg (by omega), if_neg (by omega)]
  · rw [if_neg (by omega), if_neg (by omega)]
  · rw [if_pos (by omega), if_pos (by omega)]
/-- (-1/n): n - 1 is -1. -/
theorem jac_neg {n : Nat} (hn : n % 2 = 1) : jac (n - 1) n = if n % 4 = 3 then -1 else 1 := by
  have hg : Nat.gcd (n - 1) n = 1 := by
    obtain ⟨k, rfl⟩ : ∃ k, n = k + 1 := ⟨n - 1, by omega⟩
    show Nat.gcd k (k + 1) = 1
    rw [Nat.gcd_rec, Nat.gcd_rec]
    by_cases hk : k = 0
    · subst hk; rfl
    · by_cases hk1 : k = 1
      · subst hk1; rfl
      · rw [Nat.add_mod_left, Nat.mod_eq_of_lt (show 1 < k by omega), Nat.mod_one, Nat.gcd_zero_left]
  have hm : mu (n - 1) n = n / 2 := by
    unfold mu
    have : sumTo (fun i => ng n ((n - 1) * i)) (n / 2) = sumTo (fun _ => 1) (n / 2) := by
      refine sumTo_congr fun i h1 h2 => ?_
      have e : (n - 1) * i % n = n - i := by
        have e1 : (n - 1) * i = (n - i) + n * (i - 1) := by
          rw [Nat.sub_mul, Nat.mul_sub, Nat.one_mul, Nat.mul_one]
          have : n * 1 ≤ n * i := Nat.mul_le_mul_left n h1
          omega
        rw [e1, Nat.add_mul_mod_self_left, Nat.mod_eq_of_lt (by omega)]
      unfold ng
      rw [e, if_neg (by omega)]
    rw [this, sumTo_const, Nat.mul_one]
  unfold jac
  rw [if_pos hg, hm]
  split
  · rw [if_neg (by omega)]
  · rw [if_pos (by omega)]
theorem jac_zero (n : Nat) : jac 0 n = if n = 1 then 1 else 0 := by
  unfold jac
  simp only [Nat.gcd_zero_left]
  split
  · rename_i h
    subst h
    rfl
  · rfl
theorem jac_one (a : Nat) : jac a 1 = 1 := by
  unfold jac
  rw [if_pos (Nat.gcd_one_right a)]
  rfl
/-- Multiplicative in the modulus, by reciprocity. -/
theorem jac_mul_right (a m n : Nat) (hm : m % 2 = 1) (hn : n % 2 = 1) (ha : a % 2 = 1) : jac a (m * n) = jac a m * jac a n := by
  have hmn : m * n % 2 = 1 := by rw [Nat.mul_mod, hm, hn]
  rw [jac_recip hmn ha, jac_recip hm ha, jac_recip hn ha, jac_mul m n a ha]
  have e4 : m * n % 4 = (m % 4) * (n % 4) % 4 := Nat.mul_mod _ _ _
  have h1 : m % 4 = 1 ∨ m % 4 = 3 := by omega
  have h2 : n % 4 = 1 ∨ n % 4 = 3 := by omega
  by_cases h3 : a % 4 = 3
  · rcases h1 with h1 | h1 <;> rcases h2 with h2 | h2 <;> rw [h1, h2] at e4 <;> simp [h3, h1, h2, e4, Int.mul_neg, Int.neg_mul]
  · simp [h3]
end Go.Proofs.Ytmikhkolbkdnpaa
namespace Go.Proofs.Ytmikhkolbkdnpaa
open Go.RowKit
set_option linter.unusedVariables false
set_option linter.unusedSimpArgs false

def Mag (p : Nat) : Prop := p ≤ 9223372036854775808
theorem ret_int' {k : IntKind} {a b : Int} (h : a = b) : Ending.returned (.int k a) = .returned (.int k b) := by rw [h]
set_option maxHeartbeats 800000 in
theorem two_any (n : Nat) (w : World) : Calls Try.prog 82 #[.int .u64 n] w fun e w' => e = .returned (.int .i64 (two8 n)) ∧ w = w' := by
  by_cases h1 : n % 8 = 1
  · have e1 : ((n : Int) % 8 == 1) = true := by rw [beq_iff_eq]; omega
    have HT : Hid ((1 : Int) = two8 n) := by show _ = _; unfold two8; rw [if_pos (.inl h1)]
    clear h1
    go_enter Try.func82, Try.ntmps82
    go_wp2
    go_ret
    exact ⟨ret_int' HT.out, rfl⟩
  · have e1 : ((n : Int) % 8 == 1) = false := by rw [beq_eq_false_iff_ne]; omega
    by_cases h7 : n % 8 = 7
    · have e2 : ((n : Int) % 8 == 7) = true := by rw [beq_iff_eq]; omega
      have HT : Hid ((1 : Int) = two8 n) := by show _ = _; unfold two8; rw [if_pos (.inr h7)]
      clear h1 h7
      go_enter Try.func82, Try.ntmps82
      go_wp2
      go_ret
      exact ⟨ret_int' HT.out, rfl⟩
    · have e2 : ((n : Int) % 8 == 7) = false := by rw [beq_eq_false_iff_ne]; omega
      have HT : Hid ((-1 : Int) = two8 n) := by show _ = _; unfold two8; rw [if_neg (by omega)]
      clear h1 h7
      go_enter Try.func82, Try.ntmps82
      go_wp2
      go_ret
      exact ⟨ret_int' HT.out, rfl⟩

theorem two8_cases (n : Nat) : two8 n = 1 ∨ two8 n = -1 := by unfold two8; split <;> simp
theorem u64_half {y : Nat} (h : Mag y) : IntKind.u64.wrap ((y : Int) / 2) = ((y / 2 : Nat) : Int) := by
  unfold Mag at h
  simp [IntKind.wrap, IntKind.bits, IntKind.signed]; omega
theorem one_mul_cases {a b : Int} (ha : a = 1 ∨ a = -1) (hb : b = 1 ∨ b = -1) : a * b = 1 ∨ a * b = -1 := by
  rcases ha with rfl | rfl <;> rcases hb with rfl | rfl <;> decide
theorem one_bounds {a : Int} (ha : a = 1 ∨ a = -1) : -1 ≤ a ∧ a ≤ 1 := by omega

set_option maxHeartbeats 1600000 in
set_option maxRecDepth 1000000 in
theorem jacobi_any (x0 n0 : Nat) (w : World) (hx : Mag x0) (hn : Mag n0) (hodd : n0 % 2 = 1) :
    Calls Try.prog 83 #[.int .u64 x0, .int .u64 n0] w fun e w' => e = .returned (.int .i64 (jac x0 n0)) ∧ w = w' := by
  have HO := Lib.hid hodd
  clear hodd
  go_enter Try.func83, Try.ntmps83
  go_wp2
  go_loop [0, 1, 5] (fun X N S => ∃ (x n : Nat) (s : Int), X = .int .u64 x ∧ N = .int .u64 n ∧ S = .int .i64 s ∧ Mag x ∧ Mag n ∧ (-1 ≤ s ∧ s ≤ 1) ∧ Hid (s = 1 ∨ s = -1) ∧ Hid (n % 2 = 1) ∧ Hid (s * jac x n = jac x0 n0)) (fun X _ _ => (intOf X).toNat)
  case atStart => exact ⟨x0, n0, 1, rfl, rfl, rfl, hx, hn, by omega, .inl rfl, HO.out, by show _ = _; rw [Int.one_mul]⟩
  case round =>
    obtain ⟨x, n, s, rfl, rfl, rfl, hmx, hmn, ⟨s1, s2⟩, HS, HN, HJ⟩ := hrel
    by_cases hz : x = 0
    · subst hz
      by_cases hn1 : n = 1
      · subst hn1
        have HR : Hid (s = jac x0 n0) := by show _ = _; rw [← HJ.out, jac_one, Int.mul_one]
        go_wp2
        go_ret
        exact ⟨ret_int' HR.out, rfl⟩
      · have HR : Hid ((0 : Int) = jac x0 n0) := by show _ = _; rw [← HJ.out, jac_zero, if_neg hn1, Int.mul_zero]
        have e1 : ((n : Int) == 1) = false := by rw [beq_eq_false_iff_ne]; omega
        clear hn1
        go_wp2
        go_ret
        exact ⟨ret_int' HR.out, rfl⟩
    · have hx1 : 0 < (x : Int) := by omega
      have hx2 : ((x : Int) != 0) = true := by rw [bne_iff_ne]; omega
      go_wp2
      go_loop [0, 5] (fun X S => ∃ (y : Nat) (t : Int), X = .int .u64 y ∧ S = .int .i64 t ∧ Mag y ∧ 1 ≤ y ∧ y ≤ x ∧ (-1 ≤ t ∧ t ≤ 1) ∧ Hid (t = 1 ∨ t = -1) ∧ Hid (t * jac y n = jac x0 n0)) (fun X _ => (intOf X).toNat)
      case atStart => exact ⟨x, s, rfl, rfl, hmx, by omega, Nat.le_refl _, ⟨s1, s2⟩, HS.out, HJ.out⟩
      case round =>
        obtain ⟨y, t, rfl, rfl, hmy, hy1, hyx, ⟨t1, t2⟩, HT, HJ2⟩ := hrel
        by_cases hev : y % 2 = 0
        · have e1 : ((y : Int) % 2 == 0) = true := by rw [beq_iff_eq]; omega
          have HJ3 : Hid (t * two8 n * jac (y / 2) n = jac x0 n0) := by
            show _ = _
            rw [← HJ2.out, ← jac_two HN.out, Int.mul_assoc, ← jac_mul _ _ _ HN.out, show 2 * (y / 2) = y by omega]
          have HT2 := Lib.hid (one_mul_cases HT.out (two8_cases n))
          obtain ⟨b1, b2⟩ := one_bounds HT2.out
          have hmy2 : Mag (y / 2) := by unfold Mag at *; omega
          have hy2 : 1 ≤ y / 2 := by omega
          have hy3 : y / 2 < y := by omega
          have HWR := Lib.hid (u64_half hmy)
          clear hev
          go_wp2_with (go_at_call 82; ((with_reducible refine (two_any n _).mono ?_); rintro e w' ⟨rfl, rfl⟩))
          go_round
          case rel => exact ⟨y / 2, t * two8 n, congrArg _ HWR.out, rfl, hmy2, hy2, by omega, ⟨b1, b2⟩, HT2.out, HJ3.out⟩
          case measure => simp only [intOf]; rw [HWR.out]; simp; omega
        · have e1 : ((y : Int) % 2 == 0) = false := by rw [beq_eq_false_iff_ne]; omega
          have HY : Hid (y % 2 = 1) := by show _ = _; omega
          have hlt : n % y < y := Nat.mod_lt _ (by omega)
          have hmod : Mag (n % y) := by unfold Mag at *; omega
          have hy0 : 0 < (y : Int) := by omega
          have hy4 : 1 ≤ (y : Int) := by omega
          have HREC : Hid (jac y n = (if y % 4 = 3 ∧ n % 4 = 3 then -1 else 1) * jac (n % y) y) := by
            show _ = _
            rw [jac_mod]; exact jac_recip HN.out HY.out
          by_cases h4 : y % 4 = 3 ∧ n % 4 = 3
          · have e2 : ((y : Int) % 4 == 3) = true := by rw [beq_iff_eq]; omega
            have e3 : ((n : Int) % 4 == 3) = true := by rw [beq_iff_eq]; omega
            have HJ3 : Hid (-t * jac (n % y) y = jac x0 n0) := by
              show _ = _
              rw [← HJ2.out, HREC.out, if_pos h4]; grind
            have HT2 : Hid (-t = 1 ∨ -t = -1) := by have := HT.out; show _ ∨ _; omega
            clear hev h4 HREC
            go_wp2
            go_round
            case rel => exact ⟨n % y, y, -t, ret_nat _ _, rfl, rfl, hmod, hmy, by omega, HT2.out, HY.out, HJ3.out⟩
            case measure => simp [intOf]; omega
          · have HJ3 : Hid (t * jac (n % y) y = jac x0 n0) := by
              show _ = _
              rw [← HJ2.out, HREC.out, if_neg h4]; grind
            by_cases h5 : y % 4 = 3
            · have e2 : ((y : Int) % 4 == 3) = true := by rw [beq_iff_eq]; omega
              have e3 : ((n : Int) % 4 == 3) = false := by rw [beq_eq_false_iff_ne]; omega
              clear hev h4 h5 HREC
              go_wp2
              go_round
              case rel => exact ⟨n % y, y, t, ret_nat _ _, rfl, rfl, hmod, hmy, ⟨t1, t2⟩, HT.out, HY.out, HJ3.out⟩
              case measure => simp [intOf]; omega
            · have e2 : ((y : Int) % 4 == 3) = false := by rw [beq_eq_false_iff_ne]; omega
              clear hev h4 h5 HREC
              go_wp2
              go_round
              case rel => exact ⟨n % y, y, t, ret_nat _ _, rfl, rfl, hmod, hmy, ⟨t1, t2⟩, HT.out, HY.out, HJ3.out⟩
              case measure => simp [intOf]; omega


/-- The Kronecker symbol of a negative number of at most four over an odd number. -/
def krO (A n : Nat) : Int := (if n % 4 = 3 then -1 else 1) * jac (A % n) n
def krA (A n : Nat) : Int := if n = 2 then (if A % 2 = 0 then 0 else -1) else krO A n
theorem natcast_mod4 (n : Nat) : ((n : Int) % 4 == 3) = decide (n % 4 = 3) := by
  by_cases h : n % 4 = 3
  · rw [decide_eq_true h, beq_iff_eq]; omega
  · rw [decide_eq_false h, beq_eq_false_iff_ne]; omega
set_option maxHeartbeats 1600000 in
set_option maxRecDepth 1000000 in
theorem kron_odd (A n : Nat) (w : World) (hA : A = 3 ∨ A = 4) (n1 : 1 ≤ n) (n2 : (n : Int) ≤ 1000) (hodd : n % 2 = 1) :
    Calls Try.prog 68 #[.int .i64 (-(A : Int)), .int .i64 (n : Int)] w fun e w' => e = .returned (.int .i64 (krO A n)) ∧ w = w' := by
  have HabN : Hid (∀ W, Calls Try.prog 79 #[.int .i64 (n : Int)] W fun e w' => e = .returned (.int .u64 (n : Int)) ∧ W = w') := fun W => by
    have := absolute_any (n : Int) W (by unfold Mid; omega)
    rwa [show ((n : Int)).natAbs = n by omega] at this
  have HabA : Hid (∀ W, Calls Try.prog 79 #[.int .i64 (-(A : Int))] W fun e w' => e = .returned (.int .u64 (A : Int)) ∧ W = w') := fun W => by
    have := absolute_any (-(A : Int)) W (by unfold Mid; omega)
    rwa [show (-(A : Int)).natAbs = A by omega] at this
  have hlt : A % n < n := Nat.mod_lt _ (by omega)
  have HJ := Lib.hid (fun W => jacobi_any (A % n) n W (by unfold Mag; omega) (by unfold Mag; omega) hodd)
  have hq : (n : Int) % 2 = 1 := by omega
  have hq2 : ((n : Int) % 2 == 0) = false := by rw [hq]; rfl
  have hn0 : ((n : Int) == 0) = false := by rw [beq_eq_false_iff_ne]; omega
  have hng : ¬ (n : Int) < 0 := by omega
  have hmod : (A : Int) % (n : Int) = ((A % n : Nat) : Int) := (Int.natCast_emod A n).symm
  have hjc : -1 ≤ jac (A % n) n ∧ jac (A % n) n ≤ 1 := by rcases jac_cases (A % n) n with h | h | h <;> omega
  have hnp : 1 ≤ (n : Int) := by omega
  obtain ⟨j1, j2⟩ := hjc
  by_cases h4 : n % 4 = 3
  · have h43 : ((n : Int) % 4 == 3) = true := by rw [natcast_mod4, decide_eq_true h4]
    have HK : Hid (krO A n = -jac (A % n) n) := by show _ = _; unfold krO; rw [if_pos h4]; omega
    generalize jac (A % n) n = J at *
    generalize krO A n = K at *
    generalize A % n = r at *
    clear h4 hodd
    rcases hA with rfl | rfl
    all_goals
      simp only [show -((3 : Nat) : Int) = -3 from rfl, show -((4 : Nat) : Int) = -4 from rfl, show ((3 : Nat) : Int) = 3 from rfl, show ((4 : Nat) : Int) = 4 from rfl] at *
      go_enter Try.func68, Try.ntmps68
      go_wp2_with (first
        | (go_at_call 79; first
            | ((with_reducible refine (HabN.out _).mono ?_); rintro e w1 ⟨rfl, rfl⟩)
            | ((with_reducible refine (HabA.out _).mono ?_); rintro e w1 ⟨rfl, rfl⟩))
        | (go_at_call 83; ((with_reducible refine (HJ.out _).mono ?_); rintro e w1 ⟨rfl, rfl⟩))
        | fail)
      refine wp_loop_rounds 1 ?_
      rw [rounds_succ]
      go_wp2_with (first
        | (go_at_call 79; ((with_reducible refine (HabA.out _).mono ?_); rintro e w1 ⟨rfl, rfl⟩))
        | (go_at_call 83; ((with_reducible refine (HJ.out _).mono ?_); rintro e w1 ⟨rfl, rfl⟩))
        | fail)
      go_ret
      exact ⟨ret_int' HK.out.symm, rfl⟩
  · have h43 : ((n : Int) % 4 == 3) = false := by rw [natcast_mod4, decide_eq_false h4]
    have HK : Hid (krO A n = jac (A % n) n) := by show _ = _; unfold krO; rw [if_neg h4]; omega
    generalize jac (A % n) n = J at *
    generalize krO A n = K at *
    generalize A % n = r at *
    clear h4 hodd
    rcases hA with rfl | rfl
    all_goals
      simp only [show -((3 : Nat) : Int) = -3 from rfl, show -((4 : Nat) : Int) = -4 from rfl, show ((3 : Nat) : Int) = 3 from rfl, show ((4 : Nat) : Int) = 4 from rfl] at *
      go_enter Try.func68, Try.ntmps68
      go_wp2_with (first
        | (go_at_call 79; first
            | ((with_reducible refine (HabN.out _).mono ?_); rintro e w1 ⟨rfl, rfl⟩)
            | ((with_reducible refine (HabA.out _).mono ?_); rintro e w1 ⟨rfl, rfl⟩))
        | (go_at_call 83; ((with_reducible refine (HJ.out _).mono ?_); rintro e w1 ⟨rfl, rfl⟩))
        | fail)
      refine wp_loop_rounds 1 ?_
      rw [rounds_succ]
      go_wp2_with (first
        | (go_at_call 79; ((with_reducible refine (HabA.out _).mono ?_); rintro e w1 ⟨rfl, rfl⟩))
        | (go_at_call 83; ((with_reducible refine (HJ.out _).mono ?_); rintro e w1 ⟨rfl, rfl⟩))
        | fail)
      go_ret
      exact ⟨ret_int' HK.out.symm, rfl⟩
set_option maxHeartbeats 1600000 in
set_option maxRecDepth 1000000 in
theorem kron_even (A : Nat) (w : World) (hA : A = 3 ∨ A = 4) :
    Calls Try.prog 68 #[.int .i64 (-(A : Int)), .int .i64 2] w fun e w' => e = .returned (.int .i64 (krA A 2)) ∧ w = w' := by
  have HabN : Hid (∀ W, Calls Try.prog 79 #[.int .i64 2] W fun e w' => e = .returned (.int .u64 2) ∧ W = w') := fun W => by
    have := absolute_any 2 W (by unfold Mid; omega)
    exact this
  have HabA : Hid (∀ W, Calls Try.prog 79 #[.int .i64 (-(A : Int))] W fun e w' => e = .returned (.int .u64 (A : Int)) ∧ W = w') := fun W => by
    have := absolute_any (-(A : Int)) W (by unfold Mid; omega)
    rwa [show (-(A : Int)).natAbs = A by omega] at this
  have HJ : Hid (∀ W, Calls Try.prog 83 #[.int .u64 0, .int .u64 1] W fun e w' => e = .returned (.int .i64 1) ∧ W = w') := fun W => by
    have := jacobi_any 0 1 W (by unfold Mag; omega) (by unfold Mag; omega) rfl
    rwa [jac_one] at this
  have HT : Hid (∀ W, Calls Try.prog 82 #[.int .u64 (IntKind.u64.wrap (-3))] W fun e w' => e = .returned (.int .i64 (-1)) ∧ W = w') := fun W => by
    have := two_any 18446744073709551613 W
    rwa [show two8 18446744073709551613 = -1 by decide, show ((18446744073709551613 : Nat) : Int) = IntKind.u64.wrap (-3) by decide] at this
  rcases hA with rfl | rfl
  · simp only [show -((3 : Nat) : Int) = -3 from rfl, show ((3 : Nat) : Int) = 3 from rfl, show krA 3 2 = -1 from rfl] at *
    go_enter Try.func68, Try.ntmps68
    go_wp2_with (first
      | (go_at_call 79; first
          | ((with_reducible refine (HabN.out _).mono ?_); rintro e w1 ⟨rfl, rfl⟩)
          | ((with_reducible refine (HabA.out _).mono ?_); rintro e w1 ⟨rfl, rfl⟩))
      | fail)
    refine wp_loop_rounds 2 ?_
    rw [rounds_succ]
    go_wp2_with (first
      | (go_at_call 82; ((with_reducible refine (HT.out _).mono ?_); rintro e w1 ⟨rfl, rfl⟩))
      | fail)
    first
      | (rw [rounds_succ]
         go_wp2_with (first
           | (go_at_call 79; ((with_reducible refine (HabA.out _).mono ?_); rintro e w1 ⟨rfl, rfl⟩))
           | (go_at_call 83; ((with_reducible refine (HJ.out _).mono ?_); rintro e w1 ⟨rfl, rfl⟩))
           | fail)
         go_ret
         exact ⟨rfl, rfl⟩)
  · simp only [show -((4 : Nat) : Int) = -4 from rfl, show ((4 : Nat) : Int) = 4 from rfl, show krA 4 2 = 0 from rfl] at *
    go_enter Try.func68, Try.ntmps68
    go_wp2
    go_ret
    exact ⟨rfl, rfl⟩
end Go.Proofs.Ytmikhkolbkdnpaa
namespace Go.Proofs.Ytmikhkolbkdnpaa
open Go.RowKit
set_option linter.unusedVariables false
set_option linter.unusedSimpArgs false

def psF : List (Nat × Nat) → Nat → Nat
  | [], x => x
  | p :: l, x => psF l (x + x / p.1)
def phF : List (Nat × Nat) → Nat → Nat
  | [], x => x
  | p :: l, x => phF l (x - x / p.1)
def krF (A : Nat) : List (Nat × Nat) → Int → Int
  | [], x => x
  | p :: l, x => krF A l (x * (1 + krA A p.1))
def psV (n : Nat) : Nat := psF (facs 2 n) n
def phV (n : Nat) : Nat := phF (facs 2 n) n
theorem psF_append : ∀ l m x, psF (l ++ m) x = psF m (psF l x)
  | [], _, _ => rfl
  | p :: l, m, x => psF_append l m _
theorem phF_append : ∀ l m x, phF (l ++ m) x = phF m (phF l x)
  | [], _, _ => rfl
  | p :: l, m, x => phF_append l m _
theorem krF_append (A : Nat) : ∀ l m x, krF A (l ++ m) x = krF A m (krF A l x)
  | [], _, _ => rfl
  | p :: l, m, x => krF_append A l m _
theorem phF_le : ∀ l x, phF l x ≤ x
  | [], x => Nat.le_refl x
  | p :: l, x => Nat.le_trans (phF_le l _) (Nat.sub_le _ _)
theorem phV_le (n : Nat) : phV n ≤ n := phF_le _ n
def artOk (n : Nat) : Bool := n == 0 || ((List.range ((facs 2 n).length + 1)).all (fun k => decide (psF ((facs 2 n).take k) n ≤ 1000) && decide (0 ≤ krF 3 ((facs 2 n).take k) 1) && decide (krF 3 ((facs 2 n).take k) 1 ≤ 1000) && decide (0 ≤ krF 4 ((facs 2 n).take k) 1) && decide (krF 4 ((facs 2 n).take k) 1 ≤ 1000)) && (facs 2 n).all (fun p => decide (2 ≤ p.1) && decide (p.1 ≤ 120) && (p.1 == 2 || p.1 % 2 == 1)) && decide ((facs 2 n).length ≤ 10))
set_option maxRecDepth 100000 in
theorem art_all : ∀ n, n ≤ 120 → artOk n = true := by
  have : (List.range 121).all artOk = true := by decide +kernel
  intro n hn
  exact List.all_eq_true.1 this n (List.mem_range.2 (by omega))
structure ArtF (n : Nat) : Prop where
  bd : ∀ k, k ≤ (facs 2 n).length → psF ((facs 2 n).take k) n ≤ 1000
  b3 : ∀ k, k ≤ (facs 2 n).length → 0 ≤ krF 3 ((facs 2 n).take k) 1 ∧ krF 3 ((facs 2 n).take k) 1 ≤ 1000
  b4 : ∀ k, k ≤ (facs 2 n).length → 0 ≤ krF 4 ((facs 2 n).take k) 1 ∧ krF 4 ((facs 2 n).take k) 1 ≤ 1000
  p2 : ∀ f ∈ facs 2 n, 2 ≤ f.1 ∧ f.1 ≤ 120 ∧ (f.1 = 2 ∨ f.1 % 2 = 1)
  fl : (facs 2 n).length ≤ 10
theorem art_of {n : Nat} (n1 : 1 ≤ n) (n2 : n ≤ 120) : ArtF n := by
  have h := art_all n n2
  unfold artOk at h
  rw [Bool.or_eq_true] at h
  rcases h with h | h
  · simp at h; omega
  · simp only [Bool.and_eq_true, Bool.or_eq_true, beq_iff_eq, List.all_eq_true, List.mem_range, decide_eq_true_eq] at h
    obtain ⟨⟨h3, h4⟩, h5⟩ := h
    exact ⟨fun k hk => (h3 k (by omega)).1.1.1.1, fun k hk => ⟨(h3 k (by omega)).1.1.1.2, (h3 k (by omega)).1.1.2⟩, fun k hk => ⟨(h3 k (by omega)).1.2, (h3 k (by omega)).2⟩, fun f hf => ⟨(h4 f hf).1.1, (h4 f hf).1.2, (h4 f hf).2⟩, h5⟩
theorem kron_any (A p : Nat) (w : World) (hA : A = 3 ∨ A = 4) (p1 : 1 ≤ p) (p2 : p ≤ 120) (hp : p = 2 ∨ p % 2 = 1) :
    Calls Try.prog 68 #[.int .i64 (-(A : Int)), .int .i64 (p : Int)] w fun e w' => e = .returned (.int .i64 (krA A p)) ∧ w = w' := by
  rcases hp with rfl | hp
  · exact kron_even A w hA
  · have : krA A p = krO A p := by unfold krA; rw [if_neg (by omega)]
    rw [this]
    exact kron_odd A p w hA p1 (by omega) hp
/-- What the list of factors reads as. -/
theorem fac_read {w2 : World} {B : Nat} {F : List (Nat × Nat)} {la : Option Addr} {ll lc : Nat} (ho : w2.ownsRow B 103 2 (.slice la ll lc) F.length (flat F)) :
    ll = F.length ∧ ∀ k (hk : k < F.length), ∃ g, la = some ⟨g, 0, none⟩ ∧ g < w2.heap.size ∧ w2.cell? ⟨g, k * 2, none⟩ = some (.int .i64 (F[k].1 : Int)) ∧ w2.cell? ⟨g, k * 2 + 1, none⟩ = some (.int .i64 (F[k].2 : Int)) := by
  rcases own_shape ho with ⟨h1, h2⟩ | ⟨g, cap, h1, h2, h3, h4, h5⟩
  · subst h1
    have : la = none ∧ ll = 0 ∧ lc = 0 := by simpa using h2
    exact ⟨this.2.1, fun k hk => absurd hk (by simp)⟩
  · have : la = some ⟨g, 0, none⟩ ∧ ll = F.length ∧ lc = cap := by simpa using h1
    exact ⟨this.2.1, fun k hk => ⟨g, this.1, h3, h5 k hk⟩⟩
set_option maxHeartbeats 3200000 in
set_option maxRecDepth 1000000 in
theorem psiA_any (n : Nat) (w : World) (n1 : 1 ≤ n) (n2 : (n : Int) ≤ 120) :
    Calls Try.prog 42 #[.int .i64 (n : Int)] w fun e w' => e = .returned (.tuple #[.int .i64 (psV n : Nat), .int .i64 0]) ∧ Below w.heap.size w w' := by
  have HC := Lib.hid (art_of n1 (show n ≤ 120 by omega))
  have HFa := Lib.hid (fun W => factor_any n W n1 (by omega))
  have HP : Hid (psF ((facs 2 n).take (facs 2 n).length) n = psV n) := by show _ = _; rw [List.take_length]; rfl
  have HB : Hid (∀ k, k ≤ (facs 2 n).length → psF ((facs 2 n).take k) n ≤ 1000) := HC.out.bd
  have HM : Hid (∀ (k : Nat) (h : k < (facs 2 n).length), 2 ≤ (facs 2 n)[k].1 ∧ (facs 2 n)[k].1 ≤ 120) := fun k h => ⟨(HC.out.p2 _ (List.getElem_mem h)).1, (HC.out.p2 _ (List.getElem_mem h)).2.1⟩
  have hfl := HC.out.fl
  clear HC
  generalize facs 2 n = F at *
  go_enter Try.func42, Try.ntmps42
  go_wp2_with (first
    | (go_at_call 67; ((with_reducible refine (HFa.out _).mono ?_); rintro e w2 ⟨v, rfl, ho, hb⟩; obtain ⟨la, ll, lc, rfl⟩ := ownsRow_slice ho; have HRd := Lib.hid (fac_read ho); have HB2 := Lib.hid hb; clear ho hb))
    | fail)
  obtain ⟨hll, hrd⟩ := HRd.out
  have HR := Lib.hid hrd
  subst hll
  clear HRd hrd HFa
  go_loopw [6, 8, 20] (fun X _ I wr => ∃ k x : Nat, I = .int .i64 k ∧ X = .int .i64 x ∧ k ≤ F.length ∧ (x : Int) ≤ 1000 ∧ Hid (psF (F.take k) n = x) ∧ Hid (Below w2.heap.size w2 wr)) (fun _ _ I _ => F.length - (intOf I).toNat)
  case atStart => exact ⟨0, n, rfl, rfl, Nat.zero_le _, by omega, rfl, Below.refl _ _⟩
  case round =>
    obtain ⟨k, x, rfl, rfl, hk, hx, HX, HW⟩ := hrel
    by_cases hkl : k < F.length
    · have hkli : (k : Int) < (F.length : Int) := by omega
      obtain ⟨g, rfl, hg, y1, y2⟩ := HR.out k hkl
      obtain ⟨p1, p2⟩ := HM.out k hkl
      have x1 : wr.cell? ⟨g, k * 2, none⟩ = some (.int .i64 (F[k].1 : Int)) := (HW.out.cell (p := ⟨g, k * 2, none⟩) hg).trans y1
      have x2 : wr.cell? ⟨g, k * 2 + 1, none⟩ = some (.int .i64 (F[k].2 : Int)) := (HW.out.cell (p := ⟨g, k * 2 + 1, none⟩) hg).trans y2
      have hgw : g < wr.heap.size := Nat.lt_of_lt_of_le hg HW.out.size
      have HN : Hid (psF (F.take (k + 1)) n = x + x / F[k].1) := by
        show _ = _
        rw [List.take_add_one, List.getElem?_eq_getElem hkl, Option.toList_some, psF_append, HX.out]; rfl
      have hb := HB.out (k + 1) (by omega)
      rw [HN.out] at hb
      have hd : (x : Int) / (F[k].1 : Int) = ((x / F[k].1 : Nat) : Int) := (Int.natCast_ediv _ _).symm
      clear y1 y2 HX
      generalize F[k].1 = p at *
      generalize F[k].2 = q at *
      have hp0 : ((p : Int) == 0) = false := by rw [beq_eq_false_iff_ne]; omega
      have hp1 : 1 ≤ (p : Int) := by omega
      obtain ⟨z, hz⟩ : ∃ z, z = x / p := ⟨_, rfl⟩
      rw [← hz] at hd HN hb
      have hzi : (x : Int) + (z : Int) ≤ 1000 := by omega
      clear hz
      go_wp2
      go_roundw
      case rel => exact ⟨k + 1, x + z, by go_num, by go_num, by omega, by omega, HN.out, HW.out.alloc (by have := HW.out.size; omega) _⟩
      case measure => simp [intOf]; omega
    · obtain rfl : k = F.length := by omega
      have hk3 : ¬ (F.length : Int) < (F.length : Int) := by omega
      have HE : Hid ((x : Int) = (psV n : Nat)) := by show _ = _; rw [← HP.out, HX.out]
      go_wp2
      refine bodyPost_ret (v := .tuple #[.int .i64 (x : Int), .int .i64 0]) ?_ rfl ⟨by rw [HE.out], HB2.out.trans (HW.out.mono HB2.out.size)⟩
      simp [results, Try.results42, go_sem, *]
set_option maxHeartbeats 3200000 in
set_option maxRecDepth 1000000 in
theorem phiA_any (n : Nat) (w : World) (n1 : 1 ≤ n) (n2 : (n : Int) ≤ 120) :
    Calls Try.prog 49 #[.int .i64 (n : Int)] w fun e w' => e = .returned (.tuple #[.int .i64 (phV n : Nat), .int .i64 0]) ∧ Below w.heap.size w w' := by
  have HC := Lib.hid (art_of n1 (show n ≤ 120 by omega))
  have HFa := Lib.hid (fun W => factor_any n W n1 (by omega))
  have HP : Hid (phF ((facs 2 n).take (facs 2 n).length) n = phV n) := by show _ = _; rw [List.take_length]; rfl
  have HM : Hid (∀ (k : Nat) (h : k < (facs 2 n).length), 2 ≤ (facs 2 n)[k].1 ∧ (facs 2 n)[k].1 ≤ 120) := fun k h => ⟨(HC.out.p2 _ (List.getElem_mem h)).1, (HC.out.p2 _ (List.getElem_mem h)).2.1⟩
  have hfl := HC.out.fl
  clear HC
  generalize facs 2 n = F at *
  go_enter Try.func49, Try.ntmps49
  go_wp2_with (first
    | (go_at_call 67; ((with_reducible refine (HFa.out _).mono ?_); rintro e w2 ⟨v, rfl, ho, hb⟩; obtain ⟨la, ll, lc, rfl⟩ := ownsRow_slice ho; have HRd := Lib.hid (fac_read ho); have HB2 := Lib.hid hb; clear ho hb))
    | fail)
  obtain ⟨hll, hrd⟩ := HRd.out
  have HR := Lib.hid hrd
  subst hll
  clear HRd hrd HFa
  go_loopw [6, 8, 20] (fun X _ I wr => ∃ k x : Nat, I = .int .i64 k ∧ X = .int .i64 x ∧ k ≤ F.length ∧ (x : Int) ≤ 120 ∧ Hid (phF (F.take k) n = x) ∧ Hid (Below w2.heap.size w2 wr)) (fun _ _ I _ => F.length - (intOf I).toNat)
  case atStart => exact ⟨0, n, rfl, rfl, Nat.zero_le _, by omega, rfl, Below.refl _ _⟩
  case round =>
    obtain ⟨k, x, rfl, rfl, hk, hx, HX, HW⟩ := hrel
    by_cases hkl : k < F.length
    · have hkli : (k : Int) < (F.length : Int) := by omega
      obtain ⟨g, rfl, hg, y1, y2⟩ := HR.out k hkl
      obtain ⟨p1, p2⟩ := HM.out k hkl
      have x1 : wr.cell? ⟨g, k * 2, none⟩ = some (.int .i64 (F[k].1 : Int)) := (HW.out.cell (p := ⟨g, k * 2, none⟩) hg).trans y1
      have x2 : wr.cell? ⟨g, k * 2 + 1, none⟩ = some (.int .i64 (F[k].2 : Int)) := (HW.out.cell (p := ⟨g, k * 2 + 1, none⟩) hg).trans y2
      have hgw : g < wr.heap.size := Nat.lt_of_lt_of_le hg HW.out.size
      have HN : Hid (phF (F.take (k + 1)) n = x - x / F[k].1) := by
        show _ = _
        rw [List.take_add_one, List.getElem?_eq_getElem hkl, Option.toList_some, phF_append, HX.out]; rfl
      have hd : (x : Int) / (F[k].1 : Int) = ((x / F[k].1 : Nat) : Int) := (Int.natCast_ediv _ _).symm
      clear y1 y2 HX
      generalize F[k].1 = p at *
      generalize F[k].2 = q at *
      have hp0 : ((p : Int) == 0) = false := by rw [beq_eq_false_iff_ne]; omega
      have hp1 : 1 ≤ (p : Int) := by omega
      have hle := Nat.div_le_self x p
      obtain ⟨z, hz⟩ : ∃ z, z = x / p := ⟨_, rfl⟩
      rw [← hz] at hd hle HN
      have hzi : (z : Int) ≤ (x : Int) := by omega
      clear hz
      go_wp2
      go_roundw
      case rel => exact ⟨k + 1, x - z, by go_num, by rw [Int.natCast_sub hle], by omega, by omega, HN.out, HW.out.alloc (by have := HW.out.size; omega) _⟩
      case measure => simp [intOf]; omega
    · obtain rfl : k = F.length := by omega
      have hk3 : ¬ (F.length : Int) < (F.length : Int) := by omega
      have HE : Hid ((x : Int) = (phV n : Nat)) := by show _ = _; rw [← HP.out, HX.out]
      go_wp2
      refine bodyPost_ret (v := .tuple #[.int .i64 (x : Int), .int .i64 0]) ?_ rfl ⟨by rw [HE.out], HB2.out.trans (HW.out.mono HB2.out.size)⟩
      simp [results, Try.results49, go_sem, *]
/-- The product of signature.roots. -/
def rtV (A sq n : Nat) : Int := if n % sq = 0 then 0 else krF A (facs 2 n) 1
set_option maxHeartbeats 3200000 in
set_option maxRecDepth 1000000 in
theorem roots_any (A sq n : Nat) (w : World) (hA : (A = 3 ∧ sq = 9) ∨ (A = 4 ∧ sq = 4)) (n1 : 1 ≤ n) (n2 : (n : Int) ≤ 120) :
    Calls Try.prog 43 #[.int .i64 (n : Int), .int .i64 (-(A : Int)), .int .i64 (sq : Int)] w fun e w' => e = .returned (.int .i64 (rtV A sq n)) ∧ Below w.heap.size w w' := by
  have HC := Lib.hid (art_of n1 (show n ≤ 120 by omega))
  have HFa := Lib.hid (fun W => factor_any n W n1 (by omega))
  have hs1 : 1 ≤ (sq : Int) := by omega
  have hmod : (n : Int) % (sq : Int) = ((n % sq : Nat) : Int) := (Int.natCast_emod n sq).symm
  by_cases h0 : n % sq = 0
  · have HK : Hid ((0 : Int) = rtV A sq n) := by show _ = _; unfold rtV; rw [if_pos h0]
    rw [h0] at hmod
    clear HC HFa h0
    go_enter Try.func43, Try.ntmps43
    go_wp2
    go_ret
    exact ⟨ret_int' HK.out, Below.refl _ _⟩
  · have HK : Hid (krF A (facs 2 n) 1 = rtV A sq n) := by show _ = _; unfold rtV; rw [if_neg h0]
    have hm0 : (((n : Int) % (sq : Int)) == 0) = false := by rw [beq_eq_false_iff_ne]; omega
    have HB : Hid (∀ k, k ≤ (facs 2 n).length → 0 ≤ krF A ((facs 2 n).take k) 1 ∧ krF A ((facs 2 n).take k) 1 ≤ 1000) := by
      rcases hA with ⟨rfl, _⟩ | ⟨rfl, _⟩
      · exact HC.out.b3
      · exact HC.out.b4
    have HM : Hid (∀ (k : Nat) (h : k < (facs 2 n).length), 2 ≤ (facs 2 n)[k].1 ∧ (facs 2 n)[k].1 ≤ 120 ∧ ((facs 2 n)[k].1 = 2 ∨ (facs 2 n)[k].1 % 2 = 1)) := fun k h => HC.out.p2 _ (List.getElem_mem h)
    have hA' : A = 3 ∨ A = 4 := by rcases hA with h | h; (exact .inl h.1); exact .inr h.1
    have HKr := Lib.hid (fun p (p1 : 1 ≤ p) (p2 : p ≤ 120) (hp : p = 2 ∨ p % 2 = 1) W => kron_any A p W hA' p1 p2 hp)
    have hKc : ∀ p, -1 ≤ krA A p ∧ krA A p ≤ 1 := fun p => by
      unfold krA krO
      by_cases h : p = 2
      · rw [if_pos h]; split <;> omega
      · rw [if_neg h]; rcases jac_cases (A % p) p with h | h | h <;> rw [h] <;> split <;> omega
    have HKc := Lib.hid hKc
    have hfl := HC.out.fl
    clear HC hKc h0 hmod hA'
    generalize hF : facs 2 n = F at *
    clear hF
    go_enter Try.func43, Try.ntmps43
    go_wp2_with (first
      | (go_at_call 67; ((with_reducible refine (HFa.out _).mono ?_); rintro e w2 ⟨v, rfl, ho, hb⟩; obtain ⟨la, ll, lc, rfl⟩ := ownsRow_slice ho; have HRd := Lib.hid (fac_read ho); have HB2 := Lib.hid hb; clear ho hb))
      | fail)
    obtain ⟨hll, hrd⟩ := HRd.out
    have HR := Lib.hid hrd
    subst hll
    clear HRd hrd HFa
    go_loopw [7, 11, 23] (fun X _ I wr => ∃ (k : Nat) (x : Int), I = .int .i64 k ∧ X = .int .i64 x ∧ k ≤ F.length ∧ 0 ≤ x ∧ x ≤ 1000 ∧ Hid (krF A (F.take k) 1 = x) ∧ Hid (Below w2.heap.size w2 wr)) (fun _ _ I _ => F.length - (intOf I).toNat)
    case atStart => exact ⟨0, 1, rfl, rfl, Nat.zero_le _, by omega, by omega, rfl, Below.refl _ _⟩
    case round =>
      obtain ⟨k, x, rfl, rfl, hk, hx0, hx, HX, HW⟩ := hrel
      by_cases hkl : k < F.length
      · have hkli : (k : Int) < (F.length : Int) := by omega
        obtain ⟨g, rfl, hg, y1, y2⟩ := HR.out k hkl
        obtain ⟨p1, p2, p3⟩ := HM.out k hkl
        have x1 : wr.cell? ⟨g, k * 2, none⟩ = some (.int .i64 (F[k].1 : Int)) := (HW.out.cell (p := ⟨g, k * 2, none⟩) hg).trans y1
        have x2 : wr.cell? ⟨g, k * 2 + 1, none⟩ = some (.int .i64 (F[k].2 : Int)) := (HW.out.cell (p := ⟨g, k * 2 + 1, none⟩) hg).trans y2
        have hgw : g < wr.heap.size := Nat.lt_of_lt_of_le hg HW.out.size
        have HN : Hid (krF A (F.take (k + 1)) 1 = x * (1 + krA A F[k].1)) := by
          show _ = _
          rw [List.take_add_one, List.getElem?_eq_getElem hkl, Option.toList_some, krF_append, HX.out]; rfl
        have hb := HB.out (k + 1) (by omega)
        rw [HN.out] at hb
        have HKp := Lib.hid (HKr.out F[k].1 (by omega) p2 p3)
        obtain ⟨c1, c2⟩ := HKc.out F[k].1
        have HWa : ∀ o, Hid (Below w2.heap.size w2 (wr.alloc o)) := fun o => HW.out.alloc (by have := HW.out.size; omega) o
        clear y1 y2 HX p3
        generalize krA A F[k].1 = K at *
        generalize F[k].1 = p at *
        generalize F[k].2 = q at *
        obtain ⟨b1, b2⟩ := hb
        obtain ⟨z, hz⟩ : ∃ z, z = x * (1 + K) := ⟨_, rfl⟩
        have hz' : x * (1 + K) = z := hz.symm
        rw [hz'] at HN b1 b2
        clear hz
        go_wp2_with (first
          | (go_at_call 68; ((with_reducible refine (HKp.out _).mono ?_); rintro e w3 ⟨rfl, rfl⟩))
          | fail)
        go_roundw
        case rel => exact ⟨k + 1, z, by go_num, rfl, by omega, b1, b2, HN.out, (HWa _).out⟩
        case measure => simp [intOf]; omega
      · obtain rfl : k = F.length := by omega
        have hk3 : ¬ (F.length : Int) < (F.length : Int) := by omega
        have HE : Hid (x = rtV A sq n) := by show _ = _; rw [← HK.out, ← HX.out, List.take_length]
        go_wp2
        go_ret
        exact ⟨ret_int' HE.out, HB2.out.trans (HW.out.mono HB2.out.size)⟩
end Go.Proofs.Ytmikhkolbkdnpaa
namespace Go.Proofs.Ytmikhkolbkdnpaa
open Go.RowKit
set_option linter.unusedVariables false
set_option linter.unusedSimpArgs false

def lvI (n : Int) : Int := if n < 1 ∨ 120 < n then 2 else 0
theorem lv_no {n : Int} (h : n < 1 ∨ 120 < n) : lvI n = 2 := if_pos h
theorem lv_yes {n : Int} (h1 : 1 ≤ n) (h2 : n ≤ 120) : lvI n = 0 := if_neg (by omega)
set_option maxHeartbeats 800000 in
theorem check0_any (n : Int) (w : World) : Calls Try.prog 64 #[.int .i64 n, .slice none 0 0] w fun e w' => e = .returned (.int .i64 (lvI n)) ∧ w = w' := by
  by_cases h1 : n < 1
  · rw [lv_no (.inl h1)]
    go_enter Try.func64, Try.ntmps64
    go_wp2
    go_ret
    exact ⟨rfl, rfl⟩
  by_cases h2 : 120 < n
  · rw [lv_no (.inr h2)]
    go_enter Try.func64, Try.ntmps64
    go_wp2
    go_ret
    exact ⟨rfl, rfl⟩
  · rw [lv_yes (by omega) (by omega)]
    go_enter Try.func64, Try.ntmps64
    go_wp2
    refine wp_loop_rounds 1 ?_
    rw [rounds_succ]
    go_wp2
    go_ret
    exact ⟨rfl, rfl⟩
/-- The divisors of n, ascending. -/
def dvN (n : Nat) : List Nat := (List.range (n + 1)).filter fun d => decide (1 ≤ d) && decide (n % d = 0)
theorem mem_dvN {n x : Nat} (h : 1 ≤ n) : x ∈ dvN n ↔ x ∣ n := by
  unfold dvN
  rw [List.mem_filter, List.mem_range, Bool.and_eq_true, decide_eq_true_eq, decide_eq_true_eq]
  constructor
  · rintro ⟨_, _, h3⟩; exact Nat.dvd_of_mod_eq_zero h3
  · intro hd
    have := Nat.le_of_dvd h hd
    exact ⟨by omega, Nat.pos_of_dvd_of_pos hd h, Nat.mod_eq_zero_of_dvd hd⟩
theorem dvN_asc (n : Nat) : (dvN n).Pairwise (· < ·) := List.Pairwise.filter _ List.pairwise_lt_range
theorem sorted_dvN {n : Nat} {M : List Nat} (h : DivL n M) (hn : 1 ≤ n) : sorted M = dvN n :=
  asc_eq (sorted_asc h.nd) (dvN_asc n) fun x => by rw [(sorted_perm M).mem_iff, h.mem x, mem_dvN hn]
theorem dvN_bd {n : Nat} (h : 1 ≤ n) (n2 : n ≤ 120) : (dvN n).length ≤ 121 ∧ ∀ x ∈ dvN n, 1 ≤ x ∧ x ∣ n ∧ x ≤ 120 := by
  constructor
  · have := List.length_filter_le (fun d => decide (1 ≤ d) && decide (n % d = 0)) (List.range (n + 1))
    rw [List.length_range] at this
    exact Nat.le_trans this (by omega)
  · intro x hx
    have h1 := (mem_dvN h).1 hx
    have h2 := Nat.le_of_dvd h h1
    exact ⟨Nat.pos_of_dvd_of_pos h1 h, h1, by omega⟩
theorem gcdn_any (a b : Nat) (w : World) (ha : (a : Int) ≤ 120) (hb : (b : Int) ≤ 120) : Calls Try.prog 66 #[.int .i64 (a : Int), .int .i64 (b : Int)] w fun e w' => e = .returned (.int .i64 (Nat.gcd a b : Nat)) ∧ ∃ n, w' = w.drewN n := by
  have := gcd_any (a : Int) (b : Int) w (by unfold Mid; omega) (by unfold Mid; omega)
  rwa [show Int.gcd (a : Int) (b : Int) = Nat.gcd a b from rfl] at this
def cuF (n : Nat) : List Nat → Nat → Nat
  | [], x => x
  | d :: D, x => cuF n D (x + phV (Nat.gcd d (n / d)))
def prF (n : Nat) : List Nat → Nat → Nat
  | [], x => x
  | d :: D, x => prF n D (x + phV d * phV (n / d))
theorem cuF_append (n : Nat) : ∀ l m x, cuF n (l ++ m) x = cuF n m (cuF n l x)
  | [], _, _ => rfl
  | p :: l, m, x => cuF_append n l m _
theorem prF_append (n : Nat) : ∀ l m x, prF n (l ++ m) x = prF n m (prF n l x)
  | [], _, _ => rfl
  | p :: l, m, x => prF_append n l m _
def cuV (n : Nat) : Nat := cuF n (dvN n) 0
def prV (n : Nat) : Nat := prF n (dvN n) 0
/-- The divisors of a level, as the code lists them. -/
theorem divs_any (n : Nat) (w : World) (hn : 1 ≤ n) (hn2 : (n : Int) ≤ 120) :
    Calls Try.prog 65 #[.int .i64 n] w fun e w' => ∃ (A : Option Addr) (c : Nat), e = .returned (.tuple #[.slice A (dvN n).length c, .int .i64 0]) ∧ (∀ k (hk : k < (dvN n).length), ∃ g, A = some ⟨g, 0, none⟩ ∧ g < w'.heap.size ∧ w'.cell? ⟨g, k, none⟩ = some (.int .i64 ((dvN n)[k] : Nat))) ∧ Below w.heap.size w w' :=
  (divisors_any n w hn (by omega)).mono fun e w' ⟨M, v, he, hd, _, ho, hb⟩ => by
    rw [sorted_dvN hd hn] at ho
    obtain ⟨A, c, rfl⟩ := own_len ho
    refine ⟨A, c, he, fun k hk => ?_, hb⟩
    obtain ⟨g, rfl, hg⟩ := own_some ho (by omega)
    have h2 := (ho.lt g rfl).2
    have hc0 := ho.cells (g := g) rfl _ _ (nats_get (dvN n) k hk)
    rw [addr_add] at hc0
    exact ⟨g, rfl, h2, hc0⟩
set_option maxHeartbeats 3200000 in
set_option maxRecDepth 1000000 in
theorem count0_any (n : Nat) (w : World) (n1 : 1 ≤ n) (n2 : (n : Int) ≤ 120) :
    Calls Try.prog 41 #[.int .i64 (n : Int)] w fun e w' => e = .returned (.tuple #[.int .i64 (cuV n : Nat), .int .i64 0]) ∧ Below w.heap.size w w' := by
  have HCk := Lib.hid (fun W => check0_any (n : Int) W)
  rw [lv_yes (by omega) n2] at HCk
  have HD := Lib.hid (fun W => divs_any n W n1 n2)
  have hDl := (dvN_bd n1 (by omega)).1
  have HMem := Lib.hid (dvN_bd n1 (by omega)).2
  have HP : Hid (cuF n ((dvN n).take (dvN n).length) 0 = cuV n) := by show _ = _; rw [List.take_length]; rfl
  have HPh := Lib.hid (fun (g : Nat) (h1 : 1 ≤ g) (h2 : (g : Int) ≤ 120) W => phiA_any g W h1 h2)
  generalize dvN n = D at *
  go_enter Try.func41, Try.ntmps41
  go_wp2_with (first
    | (go_at_call 64; ((with_reducible refine (HCk.out _).mono ?_); rintro e w' ⟨rfl, rfl⟩))
    | (go_at_call 65; ((with_reducible refine (HD.out _).mono ?_); rintro e w2 ⟨la, lc, rfl, hr, hb⟩; have HR := Lib.hid hr; have HB2 := Lib.hid hb; clear hr hb))
    | fail)
  clear HCk HD
  go_loopw [7, 9, 10, 11, 24] (fun X _ _ _ I wr => ∃ k x : Nat, I = .int .i64 k ∧ X = .int .i64 x ∧ k ≤ D.length ∧ x ≤ 120 * k ∧ Hid (cuF n (D.take k) 0 = x) ∧ Hid (Below w2.heap.size w2 wr)) (fun _ _ _ _ I _ => D.length - (intOf I).toNat)
  case atStart => exact ⟨0, 0, rfl, rfl, Nat.zero_le _, Nat.le_refl _, rfl, Below.refl _ _⟩
  case round =>
    obtain ⟨k, x, rfl, rfl, hk, hx, HX, HW⟩ := hrel
    by_cases hkl : k < D.length
    · have hkli : (k : Int) < (D.length : Int) := by omega
      obtain ⟨g, rfl, hg, y1⟩ := HR.out k hkl
      obtain ⟨m1, m2, m3⟩ := HMem.out D[k] (List.getElem_mem _)
      have x1 : wr.cell? ⟨g, k, none⟩ = some (.int .i64 (D[k] : Nat)) := (HW.out.cell (p := ⟨g, k, none⟩) hg).trans y1
      have hgw : g < wr.heap.size := Nat.lt_of_lt_of_le hg HW.out.size
      have HN : Hid (cuF n (D.take (k + 1)) 0 = x + phV (Nat.gcd D[k] (n / D[k]))) := by
        show _ = _
        rw [List.take_add_one, List.getElem?_eq_getElem hkl, Option.toList_some, cuF_append, HX.out]; rfl
      clear y1 HX m2
      generalize D[k] = d at *
      have hd : (n : Int) / (d : Int) = ((n / d : Nat) : Int) := (Int.natCast_ediv _ _).symm
      have hq2 : n / d ≤ 120 := Nat.le_trans (Nat.div_le_self _ _) (by omega)
      have HG := Lib.hid (fun W => gcdn_any d (n / d) W (by omega) (by omega))
      have g1 : 1 ≤ Nat.gcd d (n / d) := Nat.gcd_pos_of_pos_left _ (by omega)
      have g2 : Nat.gcd d (n / d) ≤ 120 := Nat.le_trans (Nat.gcd_le_left _ (by omega)) m3
      have HF := Lib.hid (HPh.out (Nat.gcd d (n / d)) g1 (by omega))
      have hf := phV_le (Nat.gcd d (n / d))
      generalize phV (Nat.gcd d (n / d)) = f at *
      generalize Nat.gcd d (n / d) = u at *
      generalize n / d = q at *
      have hd1 : 1 ≤ (d : Int) := by omega
      have hd2 : (d : Int) ≤ 120 := by omega
      have hd0 : ((d : Int) == 0) = false := by rw [beq_eq_false_iff_ne]; omega
      have hxf : (x : Int) + (f : Int) ≤ 20000 := by omega
      go_wp2_with (first
        | (go_at_call 66; ((with_reducible refine (HG.out _).mono ?_); rintro e w3 ⟨rfl, n1', rfl⟩))
        | (go_at_call 49; ((with_reducible refine (HF.out _).mono ?_); rintro e w4 ⟨rfl, hb⟩; have HB4 := Lib.hid hb; clear hb))
        | fail)
      go_roundw
      case rel => exact ⟨k + 1, x + f, by go_num, by go_num, by omega, by omega, HN.out, (below_drewN HW.out _).trans (HB4.out.mono (by have := HW.out.size; simpa using this))⟩
      case measure => simp [intOf]; omega
    · obtain rfl : k = D.length := by omega
      have hk3 : ¬ (D.length : Int) < (D.length : Int) := by omega
      have HE : Hid ((x : Int) = (cuV n : Nat)) := by show _ = _; rw [← HP.out, HX.out]
      go_wp2
      refine bodyPost_ret (v := .tuple #[.int .i64 (x : Int), .int .i64 0]) ?_ rfl ⟨by rw [HE.out], HB2.out.trans (HW.out.mono HB2.out.size)⟩
      simp [results, Try.results41, go_sem, *]
set_option maxHeartbeats 3200000 in
set_option maxRecDepth 1000000 in
theorem pairs_any (n : Nat) (w : World) (n1 : 1 ≤ n) (n2 : (n : Int) ≤ 120) :
    Calls Try.prog 50 #[.int .i64 (n : Int)] w fun e w' => e = .returned (.int .i64 (prV n : Nat)) ∧ Below w.heap.size w w' := by
  have HD := Lib.hid (fun W => divs_any n W n1 n2)
  have hDl := (dvN_bd n1 (by omega)).1
  have HMem := Lib.hid (dvN_bd n1 (by omega)).2
  have HP : Hid (prF n ((dvN n).take (dvN n).length) 0 = prV n) := by show _ = _; rw [List.take_length]; rfl
  have HPh := Lib.hid (fun (g : Nat) (h1 : 1 ≤ g) (h2 : (g : Int) ≤ 120) W => phiA_any g W h1 h2)
  generalize dvN n = D at *
  go_enter Try.func50, Try.ntmps50
  go_wp2_with (first
    | (go_at_call 65; ((with_reducible refine (HD.out _).mono ?_); rintro e w2 ⟨la, lc, rfl, hr, hb⟩; have HR := Lib.hid hr; have HB2 := Lib.hid hb; clear hr hb))
    | fail)
  clear HD
  go_loopw [3, 7, 8, 9, 10, 11, 19] (fun X _ _ _ _ _ I wr => ∃ k x : Nat, I = .int .i64 k ∧ X = .int .i64 x ∧ k ≤ D.length ∧ x ≤ 14400 * k ∧ Hid (prF n (D.take k) 0 = x) ∧ Hid (Below w2.heap.size w2 wr)) (fun _ _ _ _ _ _ I _ => D.length - (intOf I).toNat)
  case atStart => exact ⟨0, 0, rfl, rfl, Nat.zero_le _, Nat.le_refl _, rfl, Below.refl _ _⟩
  case round =>
    obtain ⟨k, x, rfl, rfl, hk, hx, HX, HW⟩ := hrel
    by_cases hkl : k < D.length
    · have hkli : (k : Int) < (D.length : Int) := by omega
      obtain ⟨g, rfl, hg, y1⟩ := HR.out k hkl
      obtain ⟨m1, m2, m3⟩ := HMem.out D[k] (List.getElem_mem _)
      have x1 : wr.cell? ⟨g, k, none⟩ = some (.int .i64 (D[k] : Nat)) := (HW.out.cell (p := ⟨g, k, none⟩) hg).trans y1
      have hgw : g < wr.heap.size := Nat.lt_of_lt_of_le hg HW.out.size
      have HN : Hid (prF n (D.take (k + 1)) 0 = x + phV D[k] * phV (n / D[k])) := by
        show _ = _
        rw [List.take_add_one, List.getElem?_eq_getElem hkl, Option.toList_some, prF_append, HX.out]; rfl
      have m4 : 1 ≤ n / D[k] := Nat.div_pos (Nat.le_of_dvd n1 m2) m1
      clear y1 HX m2
      generalize D[k] = d at *
      have hd : (n : Int) / (d : Int) = ((n / d : Nat) : Int) := (Int.natCast_ediv _ _).symm
      have hq2 : n / d ≤ 120 := Nat.le_trans (Nat.div_le_self _ _) (by omega)
      have HF := Lib.hid (HPh.out d m1 (by omega))
      have HF2 := Lib.hid (HPh.out (n / d) m4 (by omega))
      have hf := Nat.le_trans (phV_le d) m3
      have hf2 := Nat.le_trans (phV_le (n / d)) hq2
      generalize phV d = f at *
      generalize phV (n / d) = f2 at *
      generalize n / d = q at *
      have hff : f * f2 ≤ 14400 := Nat.mul_le_mul hf hf2
      obtain ⟨z, hz⟩ : ∃ z, z = f * f2 := ⟨_, rfl⟩
      have hzi : (f : Int) * (f2 : Int) = (z : Int) := by rw [hz]; exact (Int.natCast_mul _ _).symm
      rw [← hz] at hff HN
      clear hz
      have hd1 : 1 ≤ (d : Int) := by omega
      have hd0 : ((d : Int) == 0) = false := by rw [beq_eq_false_iff_ne]; omega
      have hxf : (x : Int) + (z : Int) ≤ 2000000 := by omega
      go_wp2_with (first
        | (go_at_call 49; first
          | ((with_reducible refine (HF.out _).mono ?_); rintro e w3 ⟨rfl, hb⟩; have HB3 := Lib.hid hb; clear hb HF)
          | ((with_reducible refine (HF2.out _).mono ?_); rintro e w4 ⟨rfl, hb⟩; have HB4 := Lib.hid hb; clear hb))
        | fail)
      go_roundw
      case rel => exact ⟨k + 1, x + z, by go_num, by go_num, by omega, by omega, HN.out, (HW.out.trans (HB3.out.mono HW.out.size)).trans (HB4.out.mono (Nat.le_trans HW.out.size HB3.out.size))⟩
      case measure => simp [intOf]; omega
    · obtain rfl : k = D.length := by omega
      have hk3 : ¬ (D.length : Int) < (D.length : Int) := by omega
      have HE : Hid ((x : Int) = (prV n : Nat)) := by show _ = _; rw [← HP.out, HX.out]
      go_wp2
      go_ret
      exact ⟨ret_int' HE.out, HB2.out.trans (HW.out.mono HB2.out.size)⟩
end Go.Proofs.Ytmikhkolbkdnpaa
namespace Go.Proofs.Ytmikhkolbkdnpaa
open Go.RowKit
set_option linter.unusedVariables false
set_option linter.unusedSimpArgs false

theorem seven_of_block {w : World} {b : Nat} {x0 x1 x2 x3 x4 x5 x6 : Value} {t : TypeId} (h : w.heap[b]? = some (.cells #[x0, x1, x2, x3, x4, x5, x6] t (0, 0))) :
    (w.cell? ⟨b, 0, none⟩ = some x0 ∧ w.cell? ⟨b, 1, none⟩ = some x1 ∧ w.cell? ⟨b, 2, none⟩ = some x2 ∧ w.cell? ⟨b, 3, none⟩ = some x3 ∧ w.cell? ⟨b, 4, none⟩ = some x4 ∧ w.cell? ⟨b, 5, none⟩ = some x5 ∧ w.cell? ⟨b, 6, none⟩ = some x6) ∧ (∀ k, w.frozen? ⟨b, k, none⟩ = false) :=
  ⟨⟨by rw [cell_of_row w b 0 _ t _ h]; rfl, by rw [cell_of_row w b 1 _ t _ h]; rfl, by rw [cell_of_row w b 2 _ t _ h]; rfl, by rw [cell_of_row w b 3 _ t _ h]; rfl, by rw [cell_of_row w b 4 _ t _ h]; rfl, by rw [cell_of_row w b 5 _ t _ h]; rfl, by rw [cell_of_row w b 6 _ t _ h]; rfl⟩, fun j => frozen_of_row w b j _ t h⟩
theorem seven_set {w : World} {g : Nat} {x0 x1 x2 x3 x4 x5 x6 : Value} {t : TypeId} (h : w.heap[g]? = some (.cells #[x0, x1, x2, x3, x4, x5, x6] t (0, 0))) (y0 y1 y2 y3 y4 y5 y6 : Value) :
    (((((((w.setCell ⟨g, 0, none⟩ y0).setCell ⟨g, 1, none⟩ y1).setCell ⟨g, 2, none⟩ y2).setCell ⟨g, 3, none⟩ y3).setCell ⟨g, 4, none⟩ y4).setCell ⟨g, 5, none⟩ y5).setCell ⟨g, 6, none⟩ y6).heap[g]? = some (.cells #[y0, y1, y2, y3, y4, y5, y6] t (0, 0)) :=
  heap_setCell_same _ g 6 #[y0, y1, y2, y3, y4, y5, x6] t y6 (heap_setCell_same _ g 5 #[y0, y1, y2, y3, y4, x5, x6] t y5 (heap_setCell_same _ g 4 #[y0, y1, y2, y3, x4, x5, x6] t y4 (heap_setCell_same _ g 3 #[y0, y1, y2, x3, x4, x5, x6] t y3 (heap_setCell_same _ g 2 #[y0, y1, x2, x3, x4, x5, x6] t y2 (heap_setCell_same _ g 1 #[y0, x1, x2, x3, x4, x5, x6] t y1 (heap_setCell_same _ g 0 #[x0, x1, x2, x3, x4, x5, x6] t y0 h))))))
theorem seven_bel {w0 w : World} {g : Nat} (h : Below g w0 w) (y0 y1 y2 y3 y4 y5 y6 : Value) : Below g w0 (((((((w.setCell ⟨g, 0, none⟩ y0).setCell ⟨g, 1, none⟩ y1).setCell ⟨g, 2, none⟩ y2).setCell ⟨g, 3, none⟩ y3).setCell ⟨g, 4, none⟩ y4).setCell ⟨g, 5, none⟩ y5).setCell ⟨g, 6, none⟩ y6) :=
  ((((((h.setCell (Nat.le_refl _) _).setCell (Nat.le_refl _) _).setCell (Nat.le_refl _) _).setCell (Nat.le_refl _) _).setCell (Nat.le_refl _) _).setCell (Nat.le_refl _) _).setCell (Nat.le_refl _) _
set_option maxHeartbeats 3200000 in
set_option maxRecDepth 1000000 in
theorem genus_any (ix gn n2 n3 cu ir : Int) (mi : Bool) (w : World) (h1 : 0 ≤ ix ∧ ix ≤ 100000) (h2 : 0 ≤ n2 ∧ n2 ≤ 100000) (h3 : 0 ≤ n3 ∧ n3 ≤ 100000) (h4 : 0 ≤ cu ∧ cu ≤ 100000) :
    Calls Try.prog 28 #[.agg #[.int .i64 ix, .int .i64 gn, .int .i64 n2, .int .i64 n3, .int .i64 cu, .int .i64 ir, .bool mi]] w fun e w' => e = .returned (.agg #[.int .i64 ix, .int .i64 ((12 + ix - 3 * n2 - 4 * n3 - 6 * cu).tdiv 12), .int .i64 n2, .int .i64 n3, .int .i64 cu, .int .i64 ir, .bool mi]) ∧ Below w.heap.size w w' := by
  obtain ⟨a1, a2⟩ := h1
  obtain ⟨b1, b2⟩ := h2
  obtain ⟨c1, c2⟩ := h3
  obtain ⟨d1, d2⟩ := h4
  go_enter Try.func28, Try.ntmps28
  go_wp2
  refine bodyPost_ret (v := .agg #[.int .i64 ix, .int .i64 ((12 + ix - 3 * n2 - 4 * n3 - 6 * cu).tdiv 12), .int .i64 n2, .int .i64 n3, .int .i64 cu, .int .i64 ir, .bool mi]) ?_ rfl ⟨rfl, below2 w _ _⟩
  simp [results, Try.results28, go_sem]
/-- The signature of Gamma0(n) and of Gamma1(n) by the formulas. -/
def g0V (n : Nat) : Int := (12 + (psV n : Int) - 3 * rtV 4 4 n - 4 * rtV 3 9 n - 6 * (cuV n : Int)).tdiv 12
theorem rtV_bd {A sq n : Nat} (hA : A = 3 ∨ A = 4) (n1 : 1 ≤ n) (n2 : n ≤ 120) : 0 ≤ rtV A sq n ∧ rtV A sq n ≤ 1000 := by
  have HC := art_of n1 n2
  unfold rtV
  split
  · omega
  · rcases hA with rfl | rfl
    · have := HC.b3 _ (Nat.le_refl _); rwa [List.take_length] at this
    · have := HC.b4 _ (Nat.le_refl _); rwa [List.take_length] at this
theorem psV_le {n : Nat} (n1 : 1 ≤ n) (n2 : n ≤ 120) : psV n ≤ 1000 := by
  have := (art_of n1 n2).bd _ (Nat.le_refl _)
  rwa [List.take_length] at this
theorem cuF_le (n : Nat) (n1 : 1 ≤ n) (n2 : n ≤ 120) : ∀ D x, (∀ d ∈ D, 1 ≤ d ∧ d ∣ n ∧ d ≤ 120) → cuF n D x ≤ x + 120 * D.length
  | [], x, _ => Nat.le_refl _
  | d :: D, x, h => by
    have h1 := cuF_le n n1 n2 D (x + phV (Nat.gcd d (n / d))) fun y hy => h y (by simp [hy])
    have h2 := phV_le (Nat.gcd d (n / d))
    obtain ⟨h3, _, h4⟩ := h d (by simp)
    have h5 : Nat.gcd d (n / d) ≤ d := Nat.gcd_le_left _ h3
    rw [cuF, List.length_cons]
    omega
theorem cuV_le {n : Nat} (n1 : 1 ≤ n) (n2 : n ≤ 120) : cuV n ≤ 20000 := by
  obtain ⟨h1, h2⟩ := dvN_bd n1 n2
  have := cuF_le n n1 n2 (dvN n) 0 h2
  unfold cuV
  omega
set_option maxHeartbeats 3200000 in
set_option maxRecDepth 1000000 in
theorem formula0_any (n : Nat) (w : World) (n1 : 1 ≤ n) (n2 : (n : Int) ≤ 120) :
    Calls Try.prog 17 #[.int .i64 (n : Int)] w fun e w' => e = .returned (.tuple #[.agg #[.int .i64 (psV n : Nat), .int .i64 (g0V n), .int .i64 (rtV 4 4 n), .int .i64 (rtV 3 9 n), .int .i64 (cuV n : Nat), .int .i64 0, .bool true], .int .i64 0]) ∧ Below w.heap.size w w' := by
  have HCu := Lib.hid (fun W => count0_any n W n1 n2)
  have HPs := Lib.hid (fun W => psiA_any n W n1 n2)
  have HR4 := Lib.hid (fun W => roots_any 4 4 n W (.inr ⟨rfl, rfl⟩) n1 n2)
  have HR3 := Lib.hid (fun W => roots_any 3 9 n W (.inl ⟨rfl, rfl⟩) n1 n2)
  simp only [show -((3 : Nat) : Int) = -3 from rfl, show -((4 : Nat) : Int) = -4 from rfl, show ((9 : Nat) : Int) = 9 from rfl, show ((4 : Nat) : Int) = 4 from rfl] at HR4 HR3
  have HG : Hid (∀ W, Calls Try.prog 28 #[.agg #[.int .i64 (psV n : Nat), .int .i64 0, .int .i64 (rtV 4 4 n), .int .i64 (rtV 3 9 n), .int .i64 (cuV n : Nat), .int .i64 0, .bool true]] W fun e w' => e = .returned (.agg #[.int .i64 (psV n : Nat), .int .i64 (g0V n), .int .i64 (rtV 4 4 n), .int .i64 (rtV 3 9 n), .int .i64 (cuV n : Nat), .int .i64 0, .bool true]) ∧ Below W.heap.size W w') := fun W => by
    have a := psV_le n1 (by omega)
    have b := cuV_le n1 (by omega)
    have c := rtV_bd (A := 4) (sq := 4) (n := n) (.inr rfl) n1 (by omega)
    have d := rtV_bd (A := 3) (sq := 9) (n := n) (.inl rfl) n1 (by omega)
    exact genus_any (psV n : Nat) 0 (rtV 4 4 n) (rtV 3 9 n) (cuV n : Nat) 0 true W (by omega) (by omega) (by omega) (by omega)
  generalize psV n = ps at *
  generalize cuV n = cu at *
  generalize rtV 4 4 n = r4 at *
  generalize rtV 3 9 n = r3 at *
  generalize g0V n = gg at *
  have T0 : Hid ((w.alloc (.cells #[.int .i64 0, .int .i64 0, .int .i64 0, .int .i64 0, .int .i64 0, .int .i64 0, .bool false] 27)).heap[w.heap.size]? = some (.cells #[.int .i64 0, .int .i64 0, .int .i64 0, .int .i64 0, .int .i64 0, .int .i64 0, .bool false] 27 (0, 0))) := heap_alloc_new w _
  have HB0 : Hid (Below w.heap.size w (w.alloc (.cells #[.int .i64 0, .int .i64 0, .int .i64 0, .int .i64 0, .int .i64 0, .int .i64 0, .bool false] 27))) := below1 w _
  go_enter Try.func17, Try.ntmps17
  go_wp2_with (first
    | (go_at_call 41; ((with_reducible refine (HCu.out _).mono ?_); rintro e w1 ⟨rfl, hb⟩; have HB1 := Lib.hid (bel0 HB0.out hb); have T1 := Lib.hid (block_below T0.out hb); clear hb))
    | (go_at_call 42; ((with_reducible refine (HPs.out _).mono ?_); rintro e w2 ⟨rfl, hb⟩; have HB2 := Lib.hid (bel0 HB1.out hb); have T2 := Lib.hid (block_below T1.out hb); clear hb))
    | (go_at_call 43; first
       | ((with_reducible refine (HR4.out _).mono ?_); rintro e w3 ⟨rfl, hb⟩; have HB3 := Lib.hid (bel0 HB2.out hb); have T3 := Lib.hid (block_below T2.out hb); clear hb)
       | ((with_reducible refine (HR3.out _).mono ?_); rintro e w4 ⟨rfl, hb⟩; have HB4 := Lib.hid (bel0 HB3.out hb); have T4 := Lib.hid (block_below T3.out hb); clear hb))
    | (go_at_call 28; ((with_reducible refine (HG.out _).mono ?_); rintro e w5 ⟨rfl, hb⟩; have HB5 := Lib.hid (bel0 HB4.out hb); have T5 := Lib.hid (block_below T4.out hb); obtain ⟨⟨t0, t1, t2, t3, t4, t5, t6⟩, _⟩ := seven_of_block T5.out; clear hb))
    | fail)
  obtain ⟨⟨s0, s1, s2, s3, s4, s5, s6⟩, _⟩ := seven_of_block (seven_set T5.out (.int .i64 (ps : Int)) (.int .i64 gg) (.int .i64 r4) (.int .i64 r3) (.int .i64 (cu : Int)) (.int .i64 0) (.bool true))
  refine bodyPost_ret (v := .tuple #[.agg #[.int .i64 (ps : Int), .int .i64 gg, .int .i64 r4, .int .i64 r3, .int .i64 (cu : Int), .int .i64 0, .bool true], .int .i64 0]) ?_ rfl ⟨rfl, seven_bel HB5.out _ _ _ _ _ _ _⟩
  simp [results, Try.results17, go_sem, s0, s1, s2, s3, s4, s5, s6]
set_option maxHeartbeats 3200000 in
set_option maxRecDepth 1000000 in
/-- Formula1 at 13. -/
theorem formula1_13 (w : World) :
    Calls Try.prog 22 #[.int .i64 13] w fun e w' => e = .returned (.tuple #[.agg #[.int .i64 84, .int .i64 2, .int .i64 0, .int .i64 0, .int .i64 12, .int .i64 0, .bool false], .int .i64 0]) ∧ Below w.heap.size w w' := by
  have HPs : Hid (∀ W, Calls Try.prog 42 #[.int .i64 13] W fun e w' => e = .returned (.tuple #[.int .i64 14, .int .i64 0]) ∧ Below W.heap.size W w') := fun W => by
    have := psiA_any 13 W (by omega) (by omega)
    rwa [show psV 13 = 14 by decide +kernel] at this
  have HPh : Hid (∀ W, Calls Try.prog 49 #[.int .i64 13] W fun e w' => e = .returned (.tuple #[.int .i64 12, .int .i64 0]) ∧ Below W.heap.size W w') := fun W => by
    have := phiA_any 13 W (by omega) (by omega)
    rwa [show phV 13 = 12 by decide +kernel] at this
  have HPr : Hid (∀ W, Calls Try.prog 50 #[.int .i64 13] W fun e w' => e = .returned (.int .i64 24) ∧ Below W.heap.size W w') := fun W => by
    have := pairs_any 13 W (by omega) (by omega)
    rwa [show prV 13 = 24 by decide +kernel] at this
  have HG : Hid (∀ W, Calls Try.prog 28 #[.agg #[.int .i64 84, .int .i64 0, .int .i64 0, .int .i64 0, .int .i64 12, .int .i64 0, .bool false]] W fun e w' => e = .returned (.agg #[.int .i64 84, .int .i64 2, .int .i64 0, .int .i64 0, .int .i64 12, .int .i64 0, .bool false]) ∧ Below W.heap.size W w') := fun W =>
    genus_any 84 0 0 0 12 0 false W (by omega) (by omega) (by omega) (by omega)
  have T0 : Hid ((w.alloc (.cells #[.int .i64 0, .int .i64 0, .int .i64 0, .int .i64 0, .int .i64 0, .int .i64 0, .bool false] 27)).heap[w.heap.size]? = some (.cells #[.int .i64 0, .int .i64 0, .int .i64 0, .int .i64 0, .int .i64 0, .int .i64 0, .bool false] 27 (0, 0))) := heap_alloc_new w _
  have HB0 : Hid (Below w.heap.size w (w.alloc (.cells #[.int .i64 0, .int .i64 0, .int .i64 0, .int .i64 0, .int .i64 0, .int .i64 0, .bool false] 27))) := below1 w _
  go_enter Try.func22, Try.ntmps22
  go_wp2_with (first
    | (go_at_call 42; ((with_reducible refine (HPs.out _).mono ?_); rintro e w2 ⟨rfl, hb⟩; have HB2 := Lib.hid (bel0 HB0.out hb); have T2 := Lib.hid (block_below T0.out hb); clear hb))
    | (go_at_call 49; ((with_reducible refine (HPh.out _).mono ?_); rintro e w3 ⟨rfl, hb⟩; have HB3 := Lib.hid (bel0 HB2.out hb); have T3 := Lib.hid (block_below T2.out hb); clear hb))
    | (go_at_call 50; ((with_reducible refine (HPr.out _).mono ?_); rintro e w4 ⟨rfl, hb⟩; have HB4 := Lib.hid (bel0 HB3.out hb); have T4 := Lib.hid (block_below T3.out hb); clear hb))
    | (go_at_call 28; ((with_reducible refine (HG.out _).mono ?_); rintro e w5 ⟨rfl, hb⟩; have HB5 := Lib.hid (bel0 (HB4.out.alloc HB4.out.size _) hb); have T5 := Lib.hid (block_below (block_alloc T4.out _) hb); obtain ⟨⟨t0, t1, t2, t3, t4, t5, t6⟩, _⟩ := seven_of_block T5.out; clear hb))
    | fail)
  obtain ⟨⟨s0, s1, s2, s3, s4, s5, s6⟩, _⟩ := seven_of_block (seven_set T5.out (.int .i64 84) (.int .i64 2) (.int .i64 0) (.int .i64 0) (.int .i64 12) (.int .i64 0) (.bool false))
  refine bodyPost_ret (v := .tuple #[.agg #[.int .i64 84, .int .i64 2, .int .i64 0, .int .i64 0, .int .i64 12, .int .i64 0, .bool false], .int .i64 0]) ?_ rfl ⟨rfl, seven_bel HB5.out _ _ _ _ _ _ _⟩
  simp [results, Try.results22, go_sem, s0, s1, s2, s3, s4, s5, s6]
end Go.Proofs.Ytmikhkolbkdnpaa
