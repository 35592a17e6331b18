/- The Jacobi symbol by the lemma of Gauss and Schering, for any odd modulus: multiplicative in the numerator, and reciprocity by counting points (Eisenstein). Nothing of the program. Contracts of symbolOfTwo, jacobi and Kronecker. The contracts of arith's Phi and Psi, of cusps.Count0 and of signature's roots and pairs, for levels. The contracts of cusps.Count0 and of signature.pairs, for levels. The contracts of signature's withGenus, Formula0 and Formula1. -/
import Derived.Test.YtdgfdbifeopiaaaArL
import Derived.Test.YtdgfdbifeopiaaaAtP
import Derived.Test.YtdgfdbifeopiaaaGcdL
import Derived.Test.YtdgfdbifeopiaaaLawK
import Derived.WalkKit
import Derived.Deep.OwnRows
import Derived.Laws.MakeOwn
import Derived.Deep.Cut
import Derived.WalkSmall
import Derived.Deep.DeepCutAuto
import Derived.Deep.CutBlock
import Derived.Deep.RegionHeld3
import Derived.IntWalk
namespace Go.Proofs.Ytdgfdbifeopiaaa

/-- The sum of f over 1, .., h. -/
def sumTo (f : Nat → Nat) : Nat → Nat
  | 0 => 0
  | h + 1 => sumTo f h + f (h + 1)
theorem sumTo_congr {f g : Nat → Nat} {h : Nat} (e : ∀ i, 1 ≤ i → i ≤ h → f i = g i) : sumTo f h = sumTo g h := by
  induction h with
  | zero => rfl
  | succ h ih =>
    simp only [sumTo]
    rw [ih (fun i h1 h2 => e i h1 (by omega)), e (h + 1) (by omega) (Nat.le_refl _)]
theorem sumTo_add (f g : Nat → Nat) (h : Nat) : sumTo (fun i => f i + g i) h = sumTo f h + sumTo g h := by
  induction h with
  | zero => rfl
  | succ h ih => simp only [sumTo, ih]; omega
theorem sumTo_mul (c : Nat) (f : Nat → Nat) (h : Nat) : sumTo (fun i => c * f i) h = c * sumTo f h := by
  induction h with
  | zero => rfl
  | succ h ih => simp only [sumTo, ih, Nat.mul_add]
theorem sumTo_const (c h : Nat) : sumTo (fun _ => c) h = h * c := by
  induction h with
  | zero => simp [sumTo]
  | succ h ih => simp only [sumTo, ih, Nat.add_mul, Nat.one_mul]
theorem sumTo_swap (f : Nat → Nat → Nat) (h k : Nat) : sumTo (fun i => sumTo (fun j => f i j) k) h = sumTo (fun j => sumTo (fun i => f i j) h) k := by
  induction h with
  | zero =>
    simp only [sumTo]
    rw [sumTo_const]
    omega
  | succ h ih => simp only [sumTo, ih]; rw [← sumTo_add]
theorem sumTo_mod {f g : Nat → Nat} {h : Nat} (e : ∀ i, 1 ≤ i → i ≤ h → f i % 2 = g i % 2) : sumTo f h % 2 = sumTo g h % 2 := by
  induction h with
  | zero => rfl
  | succ h ih =>
    simp only [sumTo]
    have h1 := ih (fun i h1 h2 => e i h1 (by omega))
    have h2 := e (h + 1) (by omega) (Nat.le_refl _)
    omega
theorem sumTo_list (f : Nat → Nat) (h : Nat) : sumTo f h = ((List.range h).map fun i => f (i + 1)).sum := by
  induction h with
  | zero => rfl
  | succ h ih => simp [sumTo, List.range_succ, ih]
/-- A one-to-one map of 1, .., h into itself only orders the sum anew. -/
theorem sumTo_perm {f : Nat → Nat} {h : Nat} {s : Nat → Nat} (hm : ∀ i, 1 ≤ i → i ≤ h → 1 ≤ s i ∧ s i ≤ h) (hi : ∀ i j, 1 ≤ i → i ≤ h → 1 ≤ j → j ≤ h → s i = s j → i = j) :
    sumTo (fun i => f (s i)) h = sumTo f h := by
  rw [sumTo_list, sumTo_list]
  have hn : ((List.range h).map fun i => s (i + 1)).Nodup := by
    rw [List.Nodup, List.pairwise_map]
    refine (List.nodup_range (n := h)).imp_of_mem ?_
    intro a b ha hb hab e
    rw [List.mem_range] at ha hb
    exact hab (by have := hi (a + 1) (b + 1) (by omega) (by omega) (by omega) (by omega) e; omega)
  have hn2 : ((List.range h).map fun i => i + 1).Nodup := by
    rw [List.Nodup, List.pairwise_map]
    refine (List.nodup_range (n := h)).imp ?_
    intro a b hab e
    exact hab (by omega)
  have hsub : ∀ x ∈ (List.range h).map (fun i => s (i + 1)), x ∈ (List.range h).map fun i => i + 1 := by
    intro x hx
    obtain ⟨i, hi', rfl⟩ := List.mem_map.1 hx
    rw [List.mem_range] at hi'
    obtain ⟨h1, h2⟩ := hm (i + 1) (by omega) (by omega)
    exact List.mem_map.2 ⟨s (i + 1) - 1, by rw [List.mem_range]; omega, by omega⟩
  have hp : ((List.range h).map fun i => s (i + 1)).Perm ((List.range h).map fun i => i + 1) := by
    rw [List.perm_ext_iff_of_nodup hn hn2]
    intro a
    refine ⟨hsub a, fun ha => Classical.byContradiction fun hna => ?_⟩
    have := List.Nodup.length_le_of_subset (l₁ := a :: (List.range h).map fun i => s (i + 1)) (l₂ := (List.range h).map fun i => i + 1) (List.nodup_cons.2 ⟨hna, hn⟩) (by
      intro x hx
      rcases List.mem_cons.1 hx with rfl | hx
      · exact ha
      · exact hsub x hx)
    simp at this
    omega
  have := (hp.map f).sum_nat
  simpa [List.map_map, Function.comp_def] using this

/-- The residue of least size, without its sign; and whether it is negative. -/
def up (n x : Nat) : Nat := if 2 * (x % n) < n then x % n else n - x % n
def ng (n x : Nat) : Nat := if 2 * (x % n) < n then 0 else 1
theorem ng_mod (n x : Nat) : ng n (x % n) = ng n x := by unfold ng; rw [Nat.mod_mod]
theorem ng_congr {n x y : Nat} (h : x % n = y % n) : ng n x = ng n y := by unfold ng; rw [h]
theorem up_rel (n x : Nat) : (ng n x = 0 ∧ up n x = x % n) ∨ (ng n x = 1 ∧ up n x = n - x % n) := by
  unfold ng up
  split
  · exact .inl ⟨rfl, rfl⟩
  · exact .inr ⟨rfl, rfl⟩
theorem cop_modJ {n a i : Nat} (h : Nat.Coprime a n) (h1 : 1 ≤ i) (h2 : i < n) : a * i % n ≠ 0 := fun e => by
  have h3 := h.symm.dvd_of_dvd_mul_left (Nat.dvd_of_mod_eq_zero e)
  have := Nat.le_of_dvd (by omega) h3
  omega
theorem up_range {n a i h : Nat} (hn : n = 2 * h + 1) (hc : Nat.Coprime a n) (h1 : 1 ≤ i) (h2 : i ≤ h) : 1 ≤ up n (a * i) ∧ up n (a * i) ≤ h := by
  have hz := cop_modJ hc h1 (show i < n by omega)
  have hl := Nat.mod_lt (a * i) (show 0 < n by omega)
  rcases up_rel n (a * i) with ⟨h3, h4⟩ | ⟨h3, h4⟩
  · unfold ng at h3
    split at h3
    · omega
    · omega
  · unfold ng at h3
    split at h3
    · omega
    · omega
theorem dvd_of_modEq {n x y : Nat} (h : x % n = y % n) (hle : y ≤ x) : n ∣ x - y := by
  have e1 := Nat.div_add_mod x n
  have e2 := Nat.div_add_mod y n
  have : x - y = n * (x / n) - n * (y / n) := by omega
  rw [this, ← Nat.mul_sub]
  exact Nat.dvd_mul_right _ _
theorem up_inj {n a h : Nat} (hn : n = 2 * h + 1) (hc : Nat.Coprime a n) : ∀ i j, 1 ≤ i → i ≤ h → 1 ≤ j → j ≤ h → up n (a * i) = up n (a * j) → i = j := by
  have key : ∀ i j, 1 ≤ i → i ≤ h → 1 ≤ j → j ≤ h → a * i % n = a * j % n → j ≤ i → i = j := by
    intro i j h1 h2 h3 h4 e hle
    have hd := dvd_of_modEq e (Nat.mul_le_mul_left a hle)
    rw [← Nat.mul_sub] at hd
    have hd2 := hc.symm.dvd_of_dvd_mul_left hd
    rcases Nat.eq_zero_or_pos (i - j) with hz | hz
    · omega
    · have := Nat.le_of_dvd hz hd2; omega
  have key2 : ∀ i j, 1 ≤ i → i ≤ h → 1 ≤ j → j ≤ h → a * i % n + a * j % n = n → False := by
    intro i j h1 h2 h3 h4 e
    have : (a * (i + j)) % n = 0 := by rw [Nat.mul_add, Nat.add_mod, e, Nat.mod_self]
    exact cop_modJ hc (i := i + j) (by omega) (by omega) this
  intro i j h1 h2 h3 h4 e
  have l1 := Nat.mod_lt (a * i) (show 0 < n by omega)
  have l2 := Nat.mod_lt (a * j) (show 0 < n by omega)
  rcases up_rel n (a * i) with ⟨_, e1⟩ | ⟨_, e1⟩ <;> rcases up_rel n (a * j) with ⟨_, e2⟩ | ⟨_, e2⟩
  · rcases Nat.le_total j i with hl | hl
    · exact key i j h1 h2 h3 h4 (by omega) hl
    · exact (key j i h3 h4 h1 h2 (by omega) hl).symm
  · exact (key2 i j h1 h2 h3 h4 (by omega)).elim
  · exact (key2 i j h1 h2 h3 h4 (by omega)).elim
  · rcases Nat.le_total j i with hl | hl
    · exact key i j h1 h2 h3 h4 (by omega) hl
    · exact (key j i h3 h4 h1 h2 (by omega) hl).symm
theorem ng_le (n x : Nat) : ng n x ≤ 1 := by unfold ng; split <;> omega
/-- The negative of a residue has the other sign. -/
theorem ng_neg {n x y h : Nat} (hn : n = 2 * h + 1) (hx : x % n ≠ 0) (hxy : (x + y) % n = 0) : ng n x + ng n y = 1 := by
  have l1 := Nat.mod_lt x (show 0 < n by omega)
  have l2 := Nat.mod_lt y (show 0 < n by omega)
  have e : (x % n + y % n) % n = 0 := by rw [← Nat.add_mod]; exact hxy
  have e2 : x % n + y % n = n := by
    obtain ⟨t, ht⟩ := Nat.dvd_of_mod_eq_zero e
    have ht1 : t < 2 := Nat.lt_of_mul_lt_mul_left (a := n) (by omega)
    have ht0 : t ≠ 0 := by rintro rfl; omega
    have : t = 1 := by omega
    subst this
    omega
  unfold ng
  split <;> split <;> omega

/-- How many of a, 2a, .., ha are negative. -/
def mu (a n : Nat) : Nat := sumTo (fun i => ng n (a * i)) (n / 2)
theorem mu_mul {a b n : Nat} (hodd : n % 2 = 1) (ha : Nat.Coprime a n) (hb : Nat.Coprime b n) : mu (a * b) n % 2 = (mu a n + mu b n) % 2 := by
  have hn : n = 2 * (n / 2) + 1 := by omega
  unfold mu
  rw [← sumTo_perm (f := fun i => ng n (a * i)) (s := fun i => up n (b * i)) (fun i h1 h2 => up_range hn hb h1 h2) (up_inj hn hb), ← sumTo_add]
  refine sumTo_mod fun i h1 h2 => ?_
  have hz := cop_modJ hb h1 (show i < n by omega)
  have hzz := cop_modJ (ha.mul_left hb) h1 (show i < n by omega)
  have hl := Nat.mod_lt (b * i) (show 0 < n by omega)
  rw [Nat.mul_assoc]
  rcases up_rel n (b * i) with ⟨e1, e2⟩ | ⟨e1, e2⟩
  · rw [e1, e2]
    have : ng n (a * (b * i % n)) = ng n (a * (b * i)) := ng_congr (by rw [Nat.mul_mod, Nat.mod_mod, ← Nat.mul_mod])
    rw [this, Nat.add_zero]
  · rw [e1, e2]
    have hs : (a * (b * i) + a * (n - b * i % n)) % n = 0 := by
      rw [← Nat.mul_add]
      have e3 := Nat.div_add_mod (b * i) n
      have : b * i + (n - b * i % n) = n * (b * i / n + 1) := by rw [Nat.mul_add, Nat.mul_one]; omega
      rw [this, ← Nat.mul_assoc, Nat.mul_comm a n, Nat.mul_assoc]
      exact Nat.mul_mod_right _ _
    have := ng_neg hn (by rw [← Nat.mul_assoc]; exact hzz) hs
    omega

/-- The parity of mu is that of the sum of the integral parts (Eisenstein). -/
def fl (m n : Nat) : Nat := sumTo (fun i => m * i / n) (n / 2)
theorem mu_fl {m n : Nat} (hodd : n % 2 = 1) (hm : m % 2 = 1) (hc : Nat.Coprime m n) : mu m n % 2 = fl m n % 2 := by
  have hn : n = 2 * (n / 2) + 1 := by omega
  have hid := sumTo_perm (f := fun i => i) (s := fun i => up n (m * i)) (fun i h1 h2 => up_range hn hc h1 h2) (up_inj hn hc)
  have h1 : sumTo (fun i => m * i) (n / 2) % 2 = (sumTo (fun i => m * i / n) (n / 2) + (sumTo (fun i => up n (m * i)) (n / 2) + mu m n)) % 2 := by
    unfold mu
    rw [← sumTo_add, ← sumTo_add]
    refine sumTo_mod fun i h1 h2 => ?_
    have e3 := Nat.div_add_mod (m * i) n
    have hl := Nat.mod_lt (m * i) (show 0 < n by omega)
    have e4 : n * (m * i / n) % 2 = (m * i / n) % 2 := by rw [Nat.mul_mod, hodd, Nat.one_mul, Nat.mod_mod]
    rcases up_rel n (m * i) with ⟨e1, e2⟩ | ⟨e1, e2⟩ <;> rw [e1, e2] <;> omega
  have h2 : sumTo (fun i => m * i) (n / 2) % 2 = sumTo (fun i => i) (n / 2) % 2 := by
    refine sumTo_mod fun i _ _ => ?_
    rw [Nat.mul_mod, hm, Nat.one_mul, Nat.mod_mod]
  rw [hid] at h1
  unfold fl
  omega
theorem count_le (n x k : Nat) (hn : 0 < n) : sumTo (fun j => if n * j ≤ x then 1 else 0) k = min k (x / n) := by
  induction k with
  | zero => simp [sumTo]
  | succ k ih =>
    simp only [sumTo, ih]
    have : n * (k + 1) ≤ x ↔ k + 1 ≤ x / n := by rw [Nat.le_div_iff_mul_le hn, Nat.mul_comm]
    by_cases h : n * (k + 1) ≤ x
    · rw [if_pos h]; have := this.1 h; omega
    · rw [if_neg h]; have : ¬ k + 1 ≤ x / n := fun h' => h (this.2 h'); omega
theorem fl_recip {m n : Nat} (hn : n % 2 = 1) (hm : m % 2 = 1) (hc : Nat.Coprime m n) : fl m n + fl n m = (n / 2) * (m / 2) := by
  have f1 : fl m n = sumTo (fun i => sumTo (fun j => if n * j ≤ m * i then 1 else 0) (m / 2)) (n / 2) := by
    unfold fl
    refine sumTo_congr fun i h1 h2 => ?_
    rw [count_le _ _ _ (by omega), Nat.min_eq_right]
    refine Nat.le_of_lt_succ ((Nat.div_lt_iff_lt_mul (by omega)).2 ?_)
    have h3 : 2 * (m * i) ≤ m * (n - 1) := by rw [← Nat.mul_left_comm]; exact Nat.mul_le_mul_left m (by omega)
    have h4 : m * (n - 1) = m * n - m := by rw [Nat.mul_sub, Nat.mul_one]
    have h5 : (2 * (m / 2) + 1) * n = m * n := by rw [show 2 * (m / 2) + 1 = m by omega]
    have h6 : (2 * (m / 2) + 1) * n = 2 * (m / 2 * n) + n := by rw [Nat.add_mul, Nat.one_mul, Nat.mul_assoc]
    have h7 : (m / 2 + 1) * n = m / 2 * n + n := by rw [Nat.add_mul, Nat.one_mul]
    show m * i < (m / 2 + 1) * n
    omega
  have f2 : fl n m = sumTo (fun i => sumTo (fun j => if m * i ≤ n * j then 1 else 0) (m / 2)) (n / 2) := by
    rw [sumTo_swap]
    unfold fl
    refine sumTo_congr fun i h1 h2 => ?_
    rw [count_le _ _ _ (by omega), Nat.min_eq_right]
    refine Nat.le_of_lt_succ ((Nat.div_lt_iff_lt_mul (by omega)).2 ?_)
    have h3 : 2 * (n * i) ≤ n * (m - 1) := by rw [← Nat.mul_left_comm]; exact Nat.mul_le_mul_left n (by omega)
    have h4 : n * (m - 1) = n * m - n := by rw [Nat.mul_sub, Nat.mul_one]
    have h5 : (2 * (n / 2) + 1) * m = n * m := by rw [show 2 * (n / 2) + 1 = n by omega]
    have h6 : (2 * (n / 2) + 1) * m = 2 * (n / 2 * m) + m := by rw [Nat.add_mul, Nat.one_mul, Nat.mul_assoc]
    have h7 : (n / 2 + 1) * m = n / 2 * m + m := by rw [Nat.add_mul, Nat.one_mul]
    show n * i < (n / 2 + 1) * m
    omega
  rw [f1, f2, ← sumTo_add, ← sumTo_const (m / 2) (n / 2)]
  refine sumTo_congr fun i h1 h2 => ?_
  have he : sumTo (fun _ => 1) (m / 2) = m / 2 := by rw [sumTo_const, Nat.mul_one]
  rw [← sumTo_add]
  refine Eq.trans (sumTo_congr fun j h3 h4 => ?_) he
  have hne : m * i ≠ n * j := fun e => by
    have : n ∣ m * i := ⟨j, e⟩
    have := Nat.le_of_dvd (by omega) (hc.symm.dvd_of_dvd_mul_left this)
    omega
  by_cases h : n * j ≤ m * i
  · rw [if_pos h, if_neg (by omega)]
  · rw [if_neg h, if_pos (by omega)]
theorem mu_recip {m n : Nat} (hn : n % 2 = 1) (hm : m % 2 = 1) (hc : Nat.Coprime m n) : (mu m n + mu n m) % 2 = (n / 2) * (m / 2) % 2 := by
  have h1 := mu_fl hn hm hc
  have h2 := mu_fl hm hn hc.symm
  have h3 := fl_recip hn hm hc
  omega

/-- The Jacobi symbol (a/n), n odd. -/
def jac (a n : Nat) : Int := if Nat.gcd a n = 1 then (if mu a n % 2 = 0 then 1 else -1) else 0
theorem jac_mod (a n : Nat) : jac (a % n) n = jac a n := by
  have e1 : Nat.gcd (a % n) n = Nat.gcd a n := by rw [Nat.gcd_comm a n, Nat.gcd_rec n a]
  have e2 : mu (a % n) n = mu a n := by
    unfold mu
    refine sumTo_congr fun i _ _ => ng_congr ?_
    rw [Nat.mul_mod, Nat.mod_mod, ← Nat.mul_mod]
  unfold jac
  simp only [e1, e2]
theorem jac_congr {a b n : Nat} (h : a % n = b % n) : jac a n = jac b n := by rw [← jac_mod a n, h, jac_mod]
theorem jac_mul (a b n : Nat) (hodd : n % 2 = 1) : jac (a * b) n = jac a n * jac b n := by
  unfold jac
  by_cases ha : Nat.gcd a n = 1
  · by_cases hb : Nat.gcd b n = 1
    · have hab : Nat.gcd (a * b) n = 1 := Nat.Coprime.mul_left ha hb
      rw [if_pos ha, if_pos hb, if_pos hab]
      have := mu_mul hodd ha hb
      have h1 := Nat.mod_two_eq_zero_or_one (mu a n)
      have h2 := Nat.mod_two_eq_zero_or_one (mu b n)
      rcases h1 with h1 | h1 <;> rcases h2 with h2 | h2 <;> simp only [h1, h2] <;>
        (first | (rw [if_pos (by omega)]; rfl) | (rw [if_neg (by omega)]; rfl))
    · have hab : Nat.gcd (a * b) n ≠ 1 := fun e => hb (Nat.Coprime.coprime_mul_left e)
      rw [if_neg hb, if_neg hab, Int.mul_zero]
  · have hab : Nat.gcd (a * b) n ≠ 1 := fun e => ha (Nat.Coprime.coprime_mul_right e)
    rw [if_neg ha, if_neg hab, Int.zero_mul]
theorem jac_cases (a n : Nat) : jac a n = 0 ∨ jac a n = 1 ∨ jac a n = -1 := by
  unfold jac
  split
  · split
    · exact .inr (.inl rfl)
    · exact .inr (.inr rfl)
  · exact .inl rfl
/-- Reciprocity. -/
theorem jac_recip {m n : Nat} (hn : n % 2 = 1) (hm : m % 2 = 1) : jac m n = (if m % 4 = 3 ∧ n % 4 = 3 then -1 else 1) * jac n m := by
  unfold jac
  by_cases hc : Nat.gcd m n = 1
  · have hc' : Nat.gcd n m = 1 := by rw [Nat.gcd_comm]; exact hc
    rw [if_pos hc, if_pos hc']
    have h := mu_recip hn hm hc
    have e : (n / 2) * (m / 2) % 2 = if m % 4 = 3 ∧ n % 4 = 3 then 1 else 0 := by
      rw [Nat.mul_mod]
      have h1 := Nat.mod_two_eq_zero_or_one (n / 2)
      have h2 := Nat.mod_two_eq_zero_or_one (m / 2)
      split
      · rename_i h3
        rw [show n / 2 % 2 = 1 by omega, show m / 2 % 2 = 1 by omega]
      · rename_i h3
        rcases h1 with h1 | h1
        · rw [h1]; simp
        · rcases h2 with h2 | h2
          · rw [h2]; simp
          · exact absurd ⟨by omega, by omega⟩ h3
    rw [e] at h
    have h1 := Nat.mod_two_eq_zero_or_one (mu m n)
    have h2 := Nat.mod_two_eq_zero_or_one (mu n m)
    by_cases hq : m % 4 = 3 ∧ n % 4 = 3
    · rw [if_pos hq] at h ⊢
      rcases h1 with h1 | h1 <;> rcases h2 with h2 | h2 <;> simp only [h1, h2] <;> first | omega | simp
    · rw [if_neg hq] at h ⊢
      rcases h1 with h1 | h1 <;> rcases h2 with h2 | h2 <;> simp only [h1, h2] <;> first | omega | simp
  · have hc' : Nat.gcd n m ≠ 1 := by rw [Nat.gcd_comm]; exact hc
    rw [if_neg hc, if_neg hc', Int.mul_zero]
/-- (2/n). -/
def two8 (n : Nat) : Int := if n % 8 = 1 ∨ n % 8 = 7 then 1 else -1
theorem count_gt (c k : Nat) : sumTo (fun i => if c < 2 * i then 1 else 0) k = k - min k (c / 2) := by
  induction k with
  | zero => simp [sumTo]
  | succ k ih =>
    simp only [sumTo, ih]
    by_cases h : c < 2 * (k + 1)
    · rw [if_pos h]; omega
    · rw [if_neg h]; omega
theorem jac_two {n : Nat} (hn : n % 2 = 1) : jac 2 n = two8 n := by
  have hg : Nat.gcd 2 n = 1 := by
    have h1 := Nat.gcd_dvd_left 2 n
    have h2 := Nat.gcd_dvd_right 2 n
    have h3 := Nat.le_of_dvd (by decide) h1
    have h4 : Nat.gcd 2 n ≠ 0 := fun e => by rw [e] at h1; have := Nat.eq_zero_of_zero_dvd h1; omega
    have h5 : Nat.gcd 2 n ≠ 2 := fun e => by rw [e] at h2; have := Nat.mod_eq_zero_of_dvd h2; omega
    omega
  have hm : mu 2 n = n / 2 - min (n / 2) (n / 2 / 2) := by
    unfold mu
    rw [← count_gt]
    refine sumTo_congr fun i h1 h2 => ?_
    unfold ng
    rw [Nat.mod_eq_of_lt (show 2 * i < n by omega)]
    by_cases h : n / 2 < 2 * i
    · rw [if_neg (by omega), if_pos h]
    · rw [if_pos (by omega), if_neg h]
  unfold jac two8
  rw [if_pos hg, hm]
  have h8 : n % 8 = 1 ∨ n % 8 = 3 ∨ n % 8 = 5 ∨ n % 8 = 7 := by omega
  rcases h8 with h | h | h | h
  · rw [if_pos (by omega), if_pos (by omega)]
  · rw [if_neg (by omega), if_neg (by omega)]
  · rw [if_neg (by omega), if_neg (by omega)]
  · rw [if_pos (by omega), if_pos (by omega)]
/-- (-1/n): n - 1 is -1. -/
theorem jac_neg {n : Nat} (hn : n % 2 = 1) : jac (n - 1) n = if n % 4 = 3 then -1 else 1 := by
  have hg : Nat.gcd (n - 1) n = 1 := by
    obtain ⟨k, rfl⟩ : ∃ k, n = k + 1 := ⟨n - 1, by omega⟩
    show Nat.gcd k (k + 1) = 1
    rw [Nat.gcd_rec, Nat.gcd_rec]
    by_cases hk : k = 0
    · subst hk; rfl
    · by_cases hk1 : k = 1
      · subst hk1; rfl
      · rw [Nat.add_mod_left, Nat.mod_eq_of_lt (show 1 < k by omega), Nat.mod_one, Nat.gcd_zero_left]
  have hm : mu (n - 1) n = n / 2 := by
    unfold mu
    have : sumTo (fun i => ng n ((n - 1) * i)) (n / 2) = sumTo (fun _ => 1) (n / 2) := by
      refine sumTo_congr fun i h1 h2 => ?_
      have e : (n - 1) * i % n = n - i := by
        have e1 : (n - 1) * i = (n - i) + n * (i - 1) := by
          rw [Nat.sub_mul, Nat.mul_sub, Nat.one_mul, Nat.mul_one]
          have : n * 1 ≤ n * i := Nat.mul_le_mul_left n h1
          omega
        rw [e1, Nat.add_mul_mod_self_left, Nat.mod_eq_of_lt (by omega)]
      unfold ng
      rw [e, if_neg (by omega)]
    rw [this, sumTo_const, Nat.mul_one]
  unfold jac
  rw [if_pos hg, hm]
  split
  · rw [if_neg (by omega)]
  · rw [if_pos (by omega)]
theorem jac_zero (n : Nat) : jac 0 n = if n = 1 then 1 else 0 := by
  unfold jac
  simp only [Nat.gcd_zero_left]
  split
  · rename_i h
    subst h
    rfl
  · rfl
theorem jac_one (a : Nat) : jac a 1 = 1 := by
  unfold jac
  rw [if_pos (Nat.gcd_one_right a)]
  rfl
/-- Multiplicative in the modulus, by reciprocity. -/
theorem jac_mul_right (a m n : Nat) (hm : m % 2 = 1) (hn : n % 2 = 1) (ha : a % 2 = 1) : jac a (m * n) = jac a m * jac a n := by
  have hmn : m * n % 2 = 1 := by rw [Nat.mul_mod, hm, hn]
  rw [jac_recip hmn ha, jac_recip hm ha, jac_recip hn ha, jac_mul m n a ha]
  have e4 : m * n % 4 = (m % 4) * (n % 4) % 4 := Nat.mul_mod _ _ _
  have h1 : m % 4 = 1 ∨ m % 4 = 3 := by omega
  have h2 : n % 4 = 1 ∨ n % 4 = 3 := by omega
  by_cases h3 : a % 4 = 3
  · rcases h1 with h1 | h1 <;> rcases h2 with h2 | h2 <;> rw [h1, h2] at e4 <;> simp [h3, h1, h2, e4, Int.mul_neg, Int.neg_mul]
  · simp [h3]
end Go.Proofs.Ytdgfdbifeopiaaa
namespace Go.Proofs.Ytdgfdbifeopiaaa
open Go.RowKit
set_option linter.unusedVariables false
set_option linter.unusedSimpArgs false

def Mag (p : Nat) : Prop := p ≤ 9223372036854775808
theorem ret_int' {k : IntKind} {a b : Int} (h : a = b) : Ending.returned (.int k a) = .returned (.int k b) := by rw [h]
theorem two8_cases (n : Nat) : two8 n = 1 ∨ two8 n = -1 := by unfold two8; split <;> simp
theorem u64_half {y : Nat} (h : Mag y) : IntKind.u64.wrap ((y : Int) / 2) = ((y / 2 : Nat) : Int) := by
  unfold Mag at h
  simp [IntKind.wrap, IntKind.bits, IntKind.signed]; omega
theorem one_mul_cases {a b : Int} (ha : a = 1 ∨ a = -1) (hb : b = 1 ∨ b = -1) : a * b = 1 ∨ a * b = -1 := by
  rcases ha with rfl | rfl <;> rcases hb with rfl | rfl <;> decide
theorem one_bounds {a : Int} (ha : a = 1 ∨ a = -1) : -1 ≤ a ∧ a ≤ 1 := by omega

/-- The Kronecker symbol of a negative number of at most four over an odd number. -/
def krO (A n : Nat) : Int := (if n % 4 = 3 then -1 else 1) * jac (A % n) n
def krA (A n : Nat) : Int := if n = 2 then (if A % 2 = 0 then 0 else -1) else krO A n
theorem natcast_mod4 (n : Nat) : ((n : Int) % 4 == 3) = decide (n % 4 = 3) := by
  by_cases h : n % 4 = 3
  · rw [decide_eq_true h, beq_iff_eq]; omega
  · rw [decide_eq_false h, beq_eq_false_iff_ne]; omega
end Go.Proofs.Ytdgfdbifeopiaaa
namespace Go.Proofs.Ytdgfdbifeopiaaa
open Go.RowKit
set_option linter.unusedVariables false
set_option linter.unusedSimpArgs false

def psF : List (Nat × Nat) → Nat → Nat
  | [], x => x
  | p :: l, x => psF l (x + x / p.1)
def phF : List (Nat × Nat) → Nat → Nat
  | [], x => x
  | p :: l, x => phF l (x - x / p.1)
def krF (A : Nat) : List (Nat × Nat) → Int → Int
  | [], x => x
  | p :: l, x => krF A l (x * (1 + krA A p.1))
def psV (n : Nat) : Nat := psF (facs 2 n) n
def phV (n : Nat) : Nat := phF (facs 2 n) n
theorem psF_append : ∀ l m x, psF (l ++ m) x = psF m (psF l x)
  | [], _, _ => rfl
  | p :: l, m, x => psF_append l m _
theorem phF_append : ∀ l m x, phF (l ++ m) x = phF m (phF l x)
  | [], _, _ => rfl
  | p :: l, m, x => phF_append l m _
theorem krF_append (A : Nat) : ∀ l m x, krF A (l ++ m) x = krF A m (krF A l x)
  | [], _, _ => rfl
  | p :: l, m, x => krF_append A l m _
theorem phF_le : ∀ l x, phF l x ≤ x
  | [], x => Nat.le_refl x
  | p :: l, x => Nat.le_trans (phF_le l _) (Nat.sub_le _ _)
theorem phV_le (n : Nat) : phV n ≤ n := phF_le _ n
def artOk (n : Nat) : Bool := n == 0 || ((List.range ((facs 2 n).length + 1)).all (fun k => decide (psF ((facs 2 n).take k) n ≤ 1000) && decide (0 ≤ krF 3 ((facs 2 n).take k) 1) && decide (krF 3 ((facs 2 n).take k) 1 ≤ 1000) && decide (0 ≤ krF 4 ((facs 2 n).take k) 1) && decide (krF 4 ((facs 2 n).take k) 1 ≤ 1000)) && (facs 2 n).all (fun p => decide (2 ≤ p.1) && decide (p.1 ≤ 120) && (p.1 == 2 || p.1 % 2 == 1)) && decide ((facs 2 n).length ≤ 10))
set_option maxRecDepth 100000 in
theorem art_all : ∀ n, n ≤ 120 → artOk n = true := by
  have : (List.range 121).all artOk = true := by decide +kernel
  intro n hn
  exact List.all_eq_true.1 this n (List.mem_range.2 (by omega))
structure ArtF (n : Nat) : Prop where
  bd : ∀ k, k ≤ (facs 2 n).length → psF ((facs 2 n).take k) n ≤ 1000
  b3 : ∀ k, k ≤ (facs 2 n).length → 0 ≤ krF 3 ((facs 2 n).take k) 1 ∧ krF 3 ((facs 2 n).take k) 1 ≤ 1000
  b4 : ∀ k, k ≤ (facs 2 n).length → 0 ≤ krF 4 ((facs 2 n).take k) 1 ∧ krF 4 ((facs 2 n).take k) 1 ≤ 1000
  p2 : ∀ f ∈ facs 2 n, 2 ≤ f.1 ∧ f.1 ≤ 120 ∧ (f.1 = 2 ∨ f.1 % 2 = 1)
  fl : (facs 2 n).length ≤ 10
theorem art_of {n : Nat} (n1 : 1 ≤ n) (n2 : n ≤ 120) : ArtF n := by
  have h := art_all n n2
  unfold artOk at h
  rw [Bool.or_eq_true] at h
  rcases h with h | h
  · simp at h; omega
  · simp only [Bool.and_eq_true, Bool.or_eq_true, beq_iff_eq, List.all_eq_true, List.mem_range, decide_eq_true_eq] at h
    obtain ⟨⟨h3, h4⟩, h5⟩ := h
    exact ⟨fun k hk => (h3 k (by omega)).1.1.1.1, fun k hk => ⟨(h3 k (by omega)).1.1.1.2, (h3 k (by omega)).1.1.2⟩, fun k hk => ⟨(h3 k (by omega)).1.2, (h3 k (by omega)).2⟩, fun f hf => ⟨(h4 f hf).1.1, (h4 f hf).1.2, (h4 f hf).2⟩, h5⟩
/-- What the list of factors reads as. -/
theorem fac_read {w2 : World} {B : Nat} {F : List (Nat × Nat)} {la : Option Addr} {ll lc : Nat} (ho : w2.ownsRow B 91 2 (.slice la ll lc) F.length (flat F)) :
    ll = F.length ∧ ∀ k (hk : k < F.length), ∃ g, la = some ⟨g, 0, none⟩ ∧ g < w2.heap.size ∧ w2.cell? ⟨g, k * 2, none⟩ = some (.int .i64 (F[k].1 : Int)) ∧ w2.cell? ⟨g, k * 2 + 1, none⟩ = some (.int .i64 (F[k].2 : Int)) := by
  rcases own_shape ho with ⟨h1, h2⟩ | ⟨g, cap, h1, h2, h3, h4, h5⟩
  · subst h1
    have : la = none ∧ ll = 0 ∧ lc = 0 := by simpa using h2
    exact ⟨this.2.1, fun k hk => absurd hk (by simp)⟩
  · have : la = some ⟨g, 0, none⟩ ∧ ll = F.length ∧ lc = cap := by simpa using h1
    exact ⟨this.2.1, fun k hk => ⟨g, this.1, h3, h5 k hk⟩⟩
set_option maxHeartbeats 3200000 in
set_option maxRecDepth 1000000 in
theorem psiA_any (n : Nat) (w : World) (n1 : 1 ≤ n) (n2 : (n : Int) ≤ 120) :
    Calls Try.prog 50 #[.int .i64 (n : Int)] w fun e w' => e = .returned (.tuple #[.int .i64 (psV n : Nat), .int .i64 0]) ∧ Below w.heap.size w w' := by
  have HC := Lib.hid (art_of n1 (show n ≤ 120 by omega))
  have HFa := Lib.hid (fun W => factor_any n W n1 (by omega))
  have HP : Hid (psF ((facs 2 n).take (facs 2 n).length) n = psV n) := by show _ = _; rw [List.take_length]; rfl
  have HB : Hid (∀ k, k ≤ (facs 2 n).length → psF ((facs 2 n).take k) n ≤ 1000) := HC.out.bd
  have HM : Hid (∀ (k : Nat) (h : k < (facs 2 n).length), 2 ≤ (facs 2 n)[k].1 ∧ (facs 2 n)[k].1 ≤ 120) := fun k h => ⟨(HC.out.p2 _ (List.getElem_mem h)).1, (HC.out.p2 _ (List.getElem_mem h)).2.1⟩
  have hfl := HC.out.fl
  clear HC
  generalize facs 2 n = F at *
  go_enter Try.func50, Try.ntmps50
  go_wp2_with (first
    | (go_at_call 40; ((with_reducible refine (HFa.out _).mono ?_); rintro e w2 ⟨v, rfl, ho, hb⟩; obtain ⟨la, ll, lc, rfl⟩ := ownsRow_slice ho; have HRd := Lib.hid (fac_read ho); have HB2 := Lib.hid hb; clear ho hb))
    | fail)
  obtain ⟨hll, hrd⟩ := HRd.out
  have HR := Lib.hid hrd
  subst hll
  clear HRd hrd HFa
  go_loopw [6, 8, 20] (fun X _ I wr => ∃ k x : Nat, I = .int .i64 k ∧ X = .int .i64 x ∧ k ≤ F.length ∧ (x : Int) ≤ 1000 ∧ Hid (psF (F.take k) n = x) ∧ Hid (Below w2.heap.size w2 wr)) (fun _ _ I _ => F.length - (intOf I).toNat)
  case atStart => exact ⟨0, n, rfl, rfl, Nat.zero_le _, by omega, rfl, Below.refl _ _⟩
  case round =>
    obtain ⟨k, x, rfl, rfl, hk, hx, HX, HW⟩ := hrel
    by_cases hkl : k < F.length
    · have hkli : (k : Int) < (F.length : Int) := by omega
      obtain ⟨g, rfl, hg, y1, y2⟩ := HR.out k hkl
      obtain ⟨p1, p2⟩ := HM.out k hkl
      have x1 : wr.cell? ⟨g, k * 2, none⟩ = some (.int .i64 (F[k].1 : Int)) := (HW.out.cell (p := ⟨g, k * 2, none⟩) hg).trans y1
      have x2 : wr.cell? ⟨g, k * 2 + 1, none⟩ = some (.int .i64 (F[k].2 : Int)) := (HW.out.cell (p := ⟨g, k * 2 + 1, none⟩) hg).trans y2
      have hgw : g < wr.heap.size := Nat.lt_of_lt_of_le hg HW.out.size
      have HN : Hid (psF (F.take (k + 1)) n = x + x / F[k].1) := by
        show _ = _
        rw [List.take_add_one, List.getElem?_eq_getElem hkl, Option.toList_some, psF_append, HX.out]; rfl
      have hb := HB.out (k + 1) (by omega)
      rw [HN.out] at hb
      have hd : (x : Int) / (F[k].1 : Int) = ((x / F[k].1 : Nat) : Int) := (Int.natCast_ediv _ _).symm
      clear y1 y2 HX
      generalize F[k].1 = p at *
      generalize F[k].2 = q at *
      have hp0 : ((p : Int) == 0) = false := by rw [beq_eq_false_iff_ne]; omega
      have hp1 : 1 ≤ (p : Int) := by omega
      obtain ⟨z, hz⟩ : ∃ z, z = x / p := ⟨_, rfl⟩
      rw [← hz] at hd HN hb
      have hzi : (x : Int) + (z : Int) ≤ 1000 := by omega
      clear hz
      go_wp2
      go_roundw
      case rel => exact ⟨k + 1, x + z, by go_num, by go_num, by omega, by omega, HN.out, HW.out.alloc (by have := HW.out.size; omega) _⟩
      case measure => simp [intOf]; omega
    · obtain rfl : k = F.length := by omega
      have hk3 : ¬ (F.length : Int) < (F.length : Int) := by omega
      have HE : Hid ((x : Int) = (psV n : Nat)) := by show _ = _; rw [← HP.out, HX.out]
      go_wp2
      refine bodyPost_ret (v := .tuple #[.int .i64 (x : Int), .int .i64 0]) ?_ rfl ⟨by rw [HE.out], HB2.out.trans (HW.out.mono HB2.out.size)⟩
      simp [results, Try.results50, go_sem, *]
set_option maxHeartbeats 3200000 in
set_option maxRecDepth 1000000 in
theorem phiA_any (n : Nat) (w : World) (n1 : 1 ≤ n) (n2 : (n : Int) ≤ 120) :
    Calls Try.prog 21 #[.int .i64 (n : Int)] w fun e w' => e = .returned (.tuple #[.int .i64 (phV n : Nat), .int .i64 0]) ∧ Below w.heap.size w w' := by
  have HC := Lib.hid (art_of n1 (show n ≤ 120 by omega))
  have HFa := Lib.hid (fun W => factor_any n W n1 (by omega))
  have HP : Hid (phF ((facs 2 n).take (facs 2 n).length) n = phV n) := by show _ = _; rw [List.take_length]; rfl
  have HM : Hid (∀ (k : Nat) (h : k < (facs 2 n).length), 2 ≤ (facs 2 n)[k].1 ∧ (facs 2 n)[k].1 ≤ 120) := fun k h => ⟨(HC.out.p2 _ (List.getElem_mem h)).1, (HC.out.p2 _ (List.getElem_mem h)).2.1⟩
  have hfl := HC.out.fl
  clear HC
  generalize facs 2 n = F at *
  go_enter Try.func21, Try.ntmps21
  go_wp2_with (first
    | (go_at_call 40; ((with_reducible refine (HFa.out _).mono ?_); rintro e w2 ⟨v, rfl, ho, hb⟩; obtain ⟨la, ll, lc, rfl⟩ := ownsRow_slice ho; have HRd := Lib.hid (fac_read ho); have HB2 := Lib.hid hb; clear ho hb))
    | fail)
  obtain ⟨hll, hrd⟩ := HRd.out
  have HR := Lib.hid hrd
  subst hll
  clear HRd hrd HFa
  go_loopw [6, 8, 20] (fun X _ I wr => ∃ k x : Nat, I = .int .i64 k ∧ X = .int .i64 x ∧ k ≤ F.length ∧ (x : Int) ≤ 120 ∧ Hid (phF (F.take k) n = x) ∧ Hid (Below w2.heap.size w2 wr)) (fun _ _ I _ => F.length - (intOf I).toNat)
  case atStart => exact ⟨0, n, rfl, rfl, Nat.zero_le _, by omega, rfl, Below.refl _ _⟩
  case round =>
    obtain ⟨k, x, rfl, rfl, hk, hx, HX, HW⟩ := hrel
    by_cases hkl : k < F.length
    · have hkli : (k : Int) < (F.length : Int) := by omega
      obtain ⟨g, rfl, hg, y1, y2⟩ := HR.out k hkl
      obtain ⟨p1, p2⟩ := HM.out k hkl
      have x1 : wr.cell? ⟨g, k * 2, none⟩ = some (.int .i64 (F[k].1 : Int)) := (HW.out.cell (p := ⟨g, k * 2, none⟩) hg).trans y1
      have x2 : wr.cell? ⟨g, k * 2 + 1, none⟩ = some (.int .i64 (F[k].2 : Int)) := (HW.out.cell (p := ⟨g, k * 2 + 1, none⟩) hg).trans y2
      have hgw : g < wr.heap.size := Nat.lt_of_lt_of_le hg HW.out.size
      have HN : Hid (phF (F.take (k + 1)) n = x - x / F[k].1) := by
        show _ = _
        rw [List.take_add_one, List.getElem?_eq_getElem hkl, Option.toList_some, phF_append, HX.out]; rfl
      have hd : (x : Int) / (F[k].1 : Int) = ((x / F[k].1 : Nat) : Int) := (Int.natCast_ediv _ _).symm
      clear y1 y2 HX
      generalize F[k].1 = p at *
      generalize F[k].2 = q at *
      have hp0 : ((p : Int) == 0) = false := by rw [beq_eq_false_iff_ne]; omega
      have hp1 : 1 ≤ (p : Int) := by omega
      have hle := Nat.div_le_self x p
      obtain ⟨z, hz⟩ : ∃ z, z = x / p := ⟨_, rfl⟩
      rw [← hz] at hd hle HN
      have hzi : (z : Int) ≤ (x : Int) := by omega
      clear hz
      go_wp2
      go_roundw
      case rel => exact ⟨k + 1, x - z, by go_num, by rw [Int.natCast_sub hle], by omega, by omega, HN.out, HW.out.alloc (by have := HW.out.size; omega) _⟩
      case measure => simp [intOf]; omega
    · obtain rfl : k = F.length := by omega
      have hk3 : ¬ (F.length : Int) < (F.length : Int) := by omega
      have HE : Hid ((x : Int) = (phV n : Nat)) := by show _ = _; rw [← HP.out, HX.out]
      go_wp2
      refine bodyPost_ret (v := .tuple #[.int .i64 (x : Int), .int .i64 0]) ?_ rfl ⟨by rw [HE.out], HB2.out.trans (HW.out.mono HB2.out.size)⟩
      simp [results, Try.results21, go_sem, *]
/-- The product of signature.roots. -/
def rtV (A sq n : Nat) : Int := if n % sq = 0 then 0 else krF A (facs 2 n) 1
end Go.Proofs.Ytdgfdbifeopiaaa
namespace Go.Proofs.Ytdgfdbifeopiaaa
open Go.RowKit
set_option linter.unusedVariables false
set_option linter.unusedSimpArgs false

/-- The divisors of n, ascending. -/
def dvN (n : Nat) : List Nat := (List.range (n + 1)).filter fun d => decide (1 ≤ d) && decide (n % d = 0)
theorem mem_dvN {n x : Nat} (h : 1 ≤ n) : x ∈ dvN n ↔ x ∣ n := by
  unfold dvN
  rw [List.mem_filter, List.mem_range, Bool.and_eq_true, decide_eq_true_eq, decide_eq_true_eq]
  constructor
  · rintro ⟨_, _, h3⟩; exact Nat.dvd_of_mod_eq_zero h3
  · intro hd
    have := Nat.le_of_dvd h hd
    exact ⟨by omega, Nat.pos_of_dvd_of_pos hd h, Nat.mod_eq_zero_of_dvd hd⟩
theorem dvN_asc (n : Nat) : (dvN n).Pairwise (· < ·) := List.Pairwise.filter _ List.pairwise_lt_range
theorem sorted_dvN {n : Nat} {M : List Nat} (h : DivL n M) (hn : 1 ≤ n) : sorted M = dvN n :=
  asc_eq (sorted_asc h.nd) (dvN_asc n) fun x => by rw [(sorted_perm M).mem_iff, h.mem x, mem_dvN hn]
theorem dvN_bd {n : Nat} (h : 1 ≤ n) (n2 : n ≤ 120) : (dvN n).length ≤ 121 ∧ ∀ x ∈ dvN n, 1 ≤ x ∧ x ∣ n ∧ x ≤ 120 := by
  constructor
  · have := List.length_filter_le (fun d => decide (1 ≤ d) && decide (n % d = 0)) (List.range (n + 1))
    rw [List.length_range] at this
    exact Nat.le_trans this (by omega)
  · intro x hx
    have h1 := (mem_dvN h).1 hx
    have h2 := Nat.le_of_dvd h h1
    exact ⟨Nat.pos_of_dvd_of_pos h1 h, h1, by omega⟩
def cuF (n : Nat) : List Nat → Nat → Nat
  | [], x => x
  | d :: D, x => cuF n D (x + phV (Nat.gcd d (n / d)))
def prF (n : Nat) : List Nat → Nat → Nat
  | [], x => x
  | d :: D, x => prF n D (x + phV d * phV (n / d))
theorem cuF_append (n : Nat) : ∀ l m x, cuF n (l ++ m) x = cuF n m (cuF n l x)
  | [], _, _ => rfl
  | p :: l, m, x => cuF_append n l m _
theorem prF_append (n : Nat) : ∀ l m x, prF n (l ++ m) x = prF n m (prF n l x)
  | [], _, _ => rfl
  | p :: l, m, x => prF_append n l m _
def cuV (n : Nat) : Nat := cuF n (dvN n) 0
def prV (n : Nat) : Nat := prF n (dvN n) 0
/-- The divisors of a level, as the code lists them. -/
theorem divs_any (n : Nat) (w : World) (hn : 1 ≤ n) (hn2 : (n : Int) ≤ 120) :
    Calls Try.prog 20 #[.int .i64 n] w fun e w' => ∃ (A : Option Addr) (c : Nat), e = .returned (.tuple #[.slice A (dvN n).length c, .int .i64 0]) ∧ (∀ k (hk : k < (dvN n).length), ∃ g, A = some ⟨g, 0, none⟩ ∧ g < w'.heap.size ∧ w'.cell? ⟨g, k, none⟩ = some (.int .i64 ((dvN n)[k] : Nat))) ∧ Below w.heap.size w w' :=
  (divisors_any n w hn (by omega)).mono fun e w' ⟨M, v, he, hd, _, ho, hb⟩ => by
    rw [sorted_dvN hd hn] at ho
    obtain ⟨A, c, rfl⟩ := own_len ho
    refine ⟨A, c, he, fun k hk => ?_, hb⟩
    obtain ⟨g, rfl, hg⟩ := own_some ho (by omega)
    have h2 := (ho.lt g rfl).2
    have hc0 := ho.cells (g := g) rfl _ _ (nats_get (dvN n) k hk)
    rw [addr_add] at hc0
    exact ⟨g, rfl, h2, hc0⟩
set_option maxHeartbeats 3200000 in
set_option maxRecDepth 1000000 in
theorem count0_any (n : Nat) (w : World) (n1 : 1 ≤ n) (n2 : (n : Int) ≤ 120) :
    Calls Try.prog 8 #[.int .i64 (n : Int)] w fun e w' => e = .returned (.tuple #[.int .i64 (cuV n : Nat), .int .i64 0]) ∧ Below w.heap.size w w' := by
  have HCk := Lib.hid (fun W => check0_any (n : Int) W)
  rw [lv_yes (by omega) n2] at HCk
  have HD := Lib.hid (fun W => divs_any n W n1 n2)
  have hDl := (dvN_bd n1 (by omega)).1
  have HMem := Lib.hid (dvN_bd n1 (by omega)).2
  have HP : Hid (cuF n ((dvN n).take (dvN n).length) 0 = cuV n) := by show _ = _; rw [List.take_length]; rfl
  have HPh := Lib.hid (fun (g : Nat) (h1 : 1 ≤ g) (h2 : (g : Int) ≤ 120) W => phiA_any g W h1 h2)
  generalize dvN n = D at *
  go_enter Try.func8, Try.ntmps8
  go_wp2_with (first
    | (go_at_call 19; ((with_reducible refine (HCk.out _).mono ?_); rintro e w' ⟨rfl, rfl⟩))
    | (go_at_call 20; ((with_reducible refine (HD.out _).mono ?_); rintro e w2 ⟨la, lc, rfl, hr, hb⟩; have HR := Lib.hid hr; have HB2 := Lib.hid hb; clear hr hb))
    | fail)
  clear HCk HD
  go_loopw [7, 9, 10, 11, 24] (fun X _ _ _ I wr => ∃ k x : Nat, I = .int .i64 k ∧ X = .int .i64 x ∧ k ≤ D.length ∧ x ≤ 120 * k ∧ Hid (cuF n (D.take k) 0 = x) ∧ Hid (Below w2.heap.size w2 wr)) (fun _ _ _ _ I _ => D.length - (intOf I).toNat)
  case atStart => exact ⟨0, 0, rfl, rfl, Nat.zero_le _, Nat.le_refl _, rfl, Below.refl _ _⟩
  case round =>
    obtain ⟨k, x, rfl, rfl, hk, hx, HX, HW⟩ := hrel
    by_cases hkl : k < D.length
    · have hkli : (k : Int) < (D.length : Int) := by omega
      obtain ⟨g, rfl, hg, y1⟩ := HR.out k hkl
      obtain ⟨m1, m2, m3⟩ := HMem.out D[k] (List.getElem_mem _)
      have x1 : wr.cell? ⟨g, k, none⟩ = some (.int .i64 (D[k] : Nat)) := (HW.out.cell (p := ⟨g, k, none⟩) hg).trans y1
      have hgw : g < wr.heap.size := Nat.lt_of_lt_of_le hg HW.out.size
      have HN : Hid (cuF n (D.take (k + 1)) 0 = x + phV (Nat.gcd D[k] (n / D[k]))) := by
        show _ = _
        rw [List.take_add_one, List.getElem?_eq_getElem hkl, Option.toList_some, cuF_append, HX.out]; rfl
      clear y1 HX m2
      generalize D[k] = d at *
      have hd : (n : Int) / (d : Int) = ((n / d : Nat) : Int) := (Int.natCast_ediv _ _).symm
      have hq2 : n / d ≤ 120 := Nat.le_trans (Nat.div_le_self _ _) (by omega)
      have HG := Lib.hid (fun W => gcdn_any d (n / d) W (by omega) (by omega))
      have g1 : 1 ≤ Nat.gcd d (n / d) := Nat.gcd_pos_of_pos_left _ (by omega)
      have g2 : Nat.gcd d (n / d) ≤ 120 := Nat.le_trans (Nat.gcd_le_left _ (by omega)) m3
      have HF := Lib.hid (HPh.out (Nat.gcd d (n / d)) g1 (by omega))
      have hf := phV_le (Nat.gcd d (n / d))
      generalize phV (Nat.gcd d (n / d)) = f at *
      generalize Nat.gcd d (n / d) = u at *
      generalize n / d = q at *
      have hd1 : 1 ≤ (d : Int) := by omega
      have hd2 : (d : Int) ≤ 120 := by omega
      have hd0 : ((d : Int) == 0) = false := by rw [beq_eq_false_iff_ne]; omega
      have hxf : (x : Int) + (f : Int) ≤ 20000 := by omega
      go_wp2_with (first
        | (go_at_call 22; ((with_reducible refine (HG.out _).mono ?_); rintro e w3 ⟨rfl, n1', rfl⟩))
        | (go_at_call 21; ((with_reducible refine (HF.out _).mono ?_); rintro e w4 ⟨rfl, hb⟩; have HB4 := Lib.hid hb; clear hb))
        | fail)
      go_roundw
      case rel => exact ⟨k + 1, x + f, by go_num, by go_num, by omega, by omega, HN.out, (below_drewN HW.out _).trans (HB4.out.mono (by have := HW.out.size; simpa using this))⟩
      case measure => simp [intOf]; omega
    · obtain rfl : k = D.length := by omega
      have hk3 : ¬ (D.length : Int) < (D.length : Int) := by omega
      have HE : Hid ((x : Int) = (cuV n : Nat)) := by show _ = _; rw [← HP.out, HX.out]
      go_wp2
      refine bodyPost_ret (v := .tuple #[.int .i64 (x : Int), .int .i64 0]) ?_ rfl ⟨by rw [HE.out], HB2.out.trans (HW.out.mono HB2.out.size)⟩
      simp [results, Try.results8, go_sem, *]
end Go.Proofs.Ytdgfdbifeopiaaa
namespace Go.Proofs.Ytdgfdbifeopiaaa
open Go.RowKit
set_option linter.unusedVariables false
set_option linter.unusedSimpArgs false

theorem seven_of_block {w : World} {b : Nat} {x0 x1 x2 x3 x4 x5 x6 : Value} {t : TypeId} (h : w.heap[b]? = some (.cells #[x0, x1, x2, x3, x4, x5, x6] t (0, 0))) :
    (w.cell? ⟨b, 0, none⟩ = some x0 ∧ w.cell? ⟨b, 1, none⟩ = some x1 ∧ w.cell? ⟨b, 2, none⟩ = some x2 ∧ w.cell? ⟨b, 3, none⟩ = some x3 ∧ w.cell? ⟨b, 4, none⟩ = some x4 ∧ w.cell? ⟨b, 5, none⟩ = some x5 ∧ w.cell? ⟨b, 6, none⟩ = some x6) ∧ (∀ k, w.frozen? ⟨b, k, none⟩ = false) :=
  ⟨⟨by rw [cell_of_row w b 0 _ t _ h]; rfl, by rw [cell_of_row w b 1 _ t _ h]; rfl, by rw [cell_of_row w b 2 _ t _ h]; rfl, by rw [cell_of_row w b 3 _ t _ h]; rfl, by rw [cell_of_row w b 4 _ t _ h]; rfl, by rw [cell_of_row w b 5 _ t _ h]; rfl, by rw [cell_of_row w b 6 _ t _ h]; rfl⟩, fun j => frozen_of_row w b j _ t h⟩
theorem seven_set {w : World} {g : Nat} {x0 x1 x2 x3 x4 x5 x6 : Value} {t : TypeId} (h : w.heap[g]? = some (.cells #[x0, x1, x2, x3, x4, x5, x6] t (0, 0))) (y0 y1 y2 y3 y4 y5 y6 : Value) :
    (((((((w.setCell ⟨g, 0, none⟩ y0).setCell ⟨g, 1, none⟩ y1).setCell ⟨g, 2, none⟩ y2).setCell ⟨g, 3, none⟩ y3).setCell ⟨g, 4, none⟩ y4).setCell ⟨g, 5, none⟩ y5).setCell ⟨g, 6, none⟩ y6).heap[g]? = some (.cells #[y0, y1, y2, y3, y4, y5, y6] t (0, 0)) :=
  heap_setCell_same _ g 6 #[y0, y1, y2, y3, y4, y5, x6] t y6 (heap_setCell_same _ g 5 #[y0, y1, y2, y3, y4, x5, x6] t y5 (heap_setCell_same _ g 4 #[y0, y1, y2, y3, x4, x5, x6] t y4 (heap_setCell_same _ g 3 #[y0, y1, y2, x3, x4, x5, x6] t y3 (heap_setCell_same _ g 2 #[y0, y1, x2, x3, x4, x5, x6] t y2 (heap_setCell_same _ g 1 #[y0, x1, x2, x3, x4, x5, x6] t y1 (heap_setCell_same _ g 0 #[x0, x1, x2, x3, x4, x5, x6] t y0 h))))))
theorem seven_bel {w0 w : World} {g : Nat} (h : Below g w0 w) (y0 y1 y2 y3 y4 y5 y6 : Value) : Below g w0 (((((((w.setCell ⟨g, 0, none⟩ y0).setCell ⟨g, 1, none⟩ y1).setCell ⟨g, 2, none⟩ y2).setCell ⟨g, 3, none⟩ y3).setCell ⟨g, 4, none⟩ y4).setCell ⟨g, 5, none⟩ y5).setCell ⟨g, 6, none⟩ y6) :=
  ((((((h.setCell (Nat.le_refl _) _).setCell (Nat.le_refl _) _).setCell (Nat.le_refl _) _).setCell (Nat.le_refl _) _).setCell (Nat.le_refl _) _).setCell (Nat.le_refl _) _).setCell (Nat.le_refl _) _
/-- The signature of Gamma0(n) and of Gamma1(n) by the formulas. -/
def g0V (n : Nat) : Int := (12 + (psV n : Int) - 3 * rtV 4 4 n - 4 * rtV 3 9 n - 6 * (cuV n : Int)).tdiv 12
theorem rtV_bd {A sq n : Nat} (hA : A = 3 ∨ A = 4) (n1 : 1 ≤ n) (n2 : n ≤ 120) : 0 ≤ rtV A sq n ∧ rtV A sq n ≤ 1000 := by
  have HC := art_of n1 n2
  unfold rtV
  split
  · omega
  · rcases hA with rfl | rfl
    · have := HC.b3 _ (Nat.le_refl _); rwa [List.take_length] at this
    · have := HC.b4 _ (Nat.le_refl _); rwa [List.take_length] at this
theorem psV_le {n : Nat} (n1 : 1 ≤ n) (n2 : n ≤ 120) : psV n ≤ 1000 := by
  have := (art_of n1 n2).bd _ (Nat.le_refl _)
  rwa [List.take_length] at this
theorem cuF_le (n : Nat) (n1 : 1 ≤ n) (n2 : n ≤ 120) : ∀ D x, (∀ d ∈ D, 1 ≤ d ∧ d ∣ n ∧ d ≤ 120) → cuF n D x ≤ x + 120 * D.length
  | [], x, _ => Nat.le_refl _
  | d :: D, x, h => by
    have h1 := cuF_le n n1 n2 D (x + phV (Nat.gcd d (n / d))) fun y hy => h y (by simp [hy])
    have h2 := phV_le (Nat.gcd d (n / d))
    obtain ⟨h3, _, h4⟩ := h d (by simp)
    have h5 : Nat.gcd d (n / d) ≤ d := Nat.gcd_le_left _ h3
    rw [cuF, List.length_cons]
    omega
theorem cuV_le {n : Nat} (n1 : 1 ≤ n) (n2 : n ≤ 120) : cuV n ≤ 20000 := by
  obtain ⟨h1, h2⟩ := dvN_bd n1 n2
  have := cuF_le n n1 n2 (dvN n) 0 h2
  unfold cuV
  omega
end Go.Proofs.Ytdgfdbifeopiaaa
