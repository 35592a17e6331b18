/- Plain mathematics of the projective line modulo n: the normal form of a pair. -/
import Derived.Test.YtfiooghodjiknaaRows
namespace Go.Proofs.Ytfiooghodjiknaa

theorem bez_nat (a b : Nat) : ∃ x y : Int, (Nat.gcd a b : Int) = a * x + b * y := by
  induction a, b using Nat.gcd.induction with
  | H0 b => exact ⟨0, 1, by simp⟩
  | H1 a b ha ih =>
    obtain ⟨x, y, h⟩ := ih
    refine ⟨y - (b / a : Nat) * x, x, ?_⟩
    rw [Nat.gcd_rec, h]
    have e : (b : Int) = a * (b / a : Nat) + (b % a : Nat) := by
      rw [← Int.natCast_mul, ← Int.natCast_add, Nat.div_add_mod]
    generalize ((b / a : Nat) : Int) = q at *
    generalize ((b % a : Nat) : Int) = r at *
    grind
theorem bez (a b : Int) : ∃ x y : Int, (Int.gcd a b : Int) = a * x + b * y := by
  obtain ⟨x, y, h⟩ := bez_nat a.natAbs b.natAbs
  have h2 : (Int.gcd a b : Int) = (a.natAbs : Int) * x + (b.natAbs : Int) * y := h
  rw [h2]
  rcases Int.natAbs_eq a with ha | ha <;> rcases Int.natAbs_eq b with hb | hb
  · exact ⟨x, y, by rw [← ha, ← hb]⟩
  · exact ⟨x, -y, by rw [← ha]; grind⟩
  · exact ⟨-x, y, by rw [← hb]; grind⟩
  · exact ⟨-x, -y, by grind⟩
theorem unit_inv {s n : Int} (h : Int.gcd s n = 1) : ∃ r : Int, n ∣ s * r - 1 := by
  obtain ⟨x, y, e⟩ := bez s n
  rw [h] at e
  exact ⟨x, -y, by grind⟩
theorem unit_of {s r n : Int} (h : n ∣ s * r - 1) : Int.gcd s n = 1 := by
  have h1 : ((Int.gcd s n : Nat) : Int) ∣ s := Int.gcd_dvd_left _ _
  have h2 : ((Int.gcd s n : Nat) : Int) ∣ n := Int.gcd_dvd_right _ _
  have h3 : ((Int.gcd s n : Nat) : Int) ∣ 1 := by
    have e : (1 : Int) = s * r - (s * r - 1) := by omega
    rw [e]
    exact Int.dvd_sub (Int.dvd_mul_of_dvd_left h1) (Int.dvd_trans h2 h)
  have := Int.natAbs_dvd_natAbs.2 h3
  simpa using this
theorem unit_of' {s r n : Int} (h : n ∣ s * r - 1) : Int.gcd r n = 1 := unit_of (s := r) (r := s) (by rwa [Int.mul_comm])
theorem unit_mul {s t n : Int} (h : Int.gcd s n = 1) (k : Int.gcd t n = 1) : Int.gcd (s * t) n = 1 := by
  obtain ⟨a, x, ha⟩ := unit_inv h
  obtain ⟨b, y, hb⟩ := unit_inv k
  exact unit_of (r := a * b) ⟨x + y + n * x * y, by grind⟩
theorem unit_mod {s n : Int} (h : Int.gcd s n = 1) : Int.gcd (s % n) n = 1 := by
  obtain ⟨a, x, ha⟩ := unit_inv h
  have e := Int.mul_ediv_add_emod s n
  exact unit_of (r := a) ⟨x - s / n * a, by generalize s / n = q at *; generalize s % n = r at *; grind⟩
theorem mod_of {n a x : Int} (h : n ∣ a - x) (h0 : 0 ≤ x) (h1 : x < n) : a % n = x := by
  obtain ⟨k, hk⟩ := h
  rw [show a = x + n * k by omega, Int.add_mul_emod_self_left]
  exact Int.emod_eq_of_lt h0 h1
theorem dvd_mod (a n : Int) : n ∣ a - a % n := ⟨a / n, by have := Int.mul_ediv_add_emod a n; omega⟩
theorem same_of {n x y : Int} (h : n ∣ x - y) (x0 : 0 ≤ x) (x1 : x < n) (y0 : 0 ≤ y) (y1 : y < n) : x = y := by
  rw [← mod_of h y0 y1, Int.emod_eq_of_lt x0 x1]
/-- (U : V) is the normal form of (c : d), T its unit. -/
structure NF (n c d U V T : Int) : Prop where
  u0 : 0 ≤ U
  u1 : U < n
  v0 : 0 ≤ V
  v1 : V < n
  t1 : 1 ≤ T
  tn : T ≤ n
  cop : Int.gcd T n = 1
  eu : n ∣ T * U - c
  ev : n ∣ T * V - d
  least : ∀ s : Int, Int.gcd s n = 1 → U < (s * c) % n ∨ (U = (s * c) % n ∧ V ≤ (s * d) % n)
/-- No common divisor. -/
def Cop3 (n c d : Int) : Prop := ∃ x y z : Int, x * c + y * d + z * n = 1
theorem cop3_of {n c d : Int} (h : Int.gcd (Int.gcd c d) n = 1) : Cop3 n c d := by
  obtain ⟨x, y, e⟩ := bez c d
  obtain ⟨p, q, f⟩ := bez (Int.gcd c d) n
  rw [h] at f
  rw [e] at f
  exact ⟨x * p, y * p, q, by grind⟩
theorem cop3_gcd {n c d : Int} (h : Cop3 n c d) : Int.gcd (Int.gcd c d) n = 1 := by
  obtain ⟨x, y, z, e⟩ := h
  have h0 : ((Int.gcd (Int.gcd c d) n : Nat) : Int) ∣ (Int.gcd c d : Nat) := Int.gcd_dvd_left _ _
  have h1 := Int.dvd_trans h0 (Int.gcd_dvd_left c d)
  have h2 := Int.dvd_trans h0 (Int.gcd_dvd_right c d)
  have h3 : ((Int.gcd (Int.gcd c d) n : Nat) : Int) ∣ n := Int.gcd_dvd_right _ _
  have h4 : ((Int.gcd (Int.gcd c d) n : Nat) : Int) ∣ 1 := by
    rw [← e]
    exact Int.dvd_add (Int.dvd_add (Int.dvd_mul_of_dvd_right h1) (Int.dvd_mul_of_dvd_right h2)) (Int.dvd_mul_of_dvd_right h3)
  have := Int.natAbs_dvd_natAbs.2 h4
  simpa using this
theorem NF.inv {n c d U V T : Int} (h : NF n c d U V T) : ∃ R : Int, Int.gcd R n = 1 ∧ n ∣ R * c - U ∧ n ∣ R * d - V := by
  obtain ⟨R, hR⟩ := unit_inv h.cop
  refine ⟨R, unit_of' hR, ?_, ?_⟩
  · obtain ⟨a, ha⟩ := hR
    obtain ⟨b, hb⟩ := h.eu
    exact ⟨a * U - R * b, by grind⟩
  · obtain ⟨a, ha⟩ := hR
    obtain ⟨b, hb⟩ := h.ev
    exact ⟨a * V - R * b, by grind⟩
theorem NF.le {n s c d c' d' U V T U' V' T' : Int} (hs : Int.gcd s n = 1) (h1 : n ∣ s * c - c') (h2 : n ∣ s * d - d') (h : NF n c d U V T) (h' : NF n c' d' U' V' T') : U < U' ∨ (U = U' ∧ V ≤ V') := by
  obtain ⟨R, hR, r1, r2⟩ := h'.inv
  have e1 : (R * s * c) % n = U' := by
    refine mod_of ?_ h'.u0 h'.u1
    obtain ⟨a, ha⟩ := r1
    obtain ⟨b, hb⟩ := h1
    exact ⟨a + R * b, by grind⟩
  have e2 : (R * s * d) % n = V' := by
    refine mod_of ?_ h'.v0 h'.v1
    obtain ⟨a, ha⟩ := r2
    obtain ⟨b, hb⟩ := h2
    exact ⟨a + R * b, by grind⟩
  have := h.least (R * s) (unit_mul hR hs)
  rwa [e1, e2] at this
theorem NF.orbit {n s c d c' d' U V T U' V' T' : Int} (hs : Int.gcd s n = 1) (h1 : n ∣ s * c - c') (h2 : n ∣ s * d - d') (h : NF n c d U V T) (h' : NF n c' d' U' V' T') : U = U' ∧ V = V' := by
  have k1 := h.le hs h1 h2 h'
  obtain ⟨r, hr⟩ := unit_inv hs
  have k2 := h'.le (s := r) (unit_of' hr)
    (by obtain ⟨a, ha⟩ := hr; obtain ⟨b, hb⟩ := h1; exact ⟨a * c - r * b, by grind⟩)
    (by obtain ⟨a, ha⟩ := hr; obtain ⟨b, hb⟩ := h2; exact ⟨a * d - r * b, by grind⟩) h
  omega
theorem unit_step {n s T T' U c c' a a' p : Int} (ha : T * U - c = n * a) (ha' : T' * U - c' = n * a') (hp : s * c - c' = n * p) : (s * T - T') * U = n * (s * a + p - a') := by
  have e1 : c = T * U - n * a := by omega
  have e2 : c' = T' * U - n * a' := by omega
  rw [e1, e2] at hp
  clear ha ha' e1 e2
  grind
theorem unit_step2 {n u U k T c a : Int} (hu : u * U = n * k) (ha : T * U - c = n * a) : u * c = n * (T * k - u * a) := by
  have e1 : c = T * U - n * a := by omega
  rw [e1]
  clear ha e1
  grind
theorem unit_step3 {n u c d x y z k l : Int} (e : x * c + y * d + z * n = 1) (h1 : u * c = n * k) (h2 : u * d = n * l) : n ∣ u := by
  refine ⟨x * k + y * l + z * u, ?_⟩
  have : u = u * (x * c + y * d + z * n) := by rw [e, Int.mul_one]
  have e1 : u * (x * c + y * d + z * n) = x * (u * c) + y * (u * d) + z * u * n := by clear e h1 h2 this; grind
  rw [e1, h1, h2] at this
  refine this.trans ?_
  clear e h1 h2 this e1
  grind
theorem NF.unitOf {n s c d c' d' U V T T' : Int} (hg : Cop3 n c d) (h1 : n ∣ s * c - c') (h2 : n ∣ s * d - d') (h : NF n c d U V T) (h' : NF n c' d' U V T') : n ∣ s * T - T' := by
  obtain ⟨x, y, z, e⟩ := hg
  obtain ⟨a, ha⟩ := h.eu
  obtain ⟨b, hb⟩ := h.ev
  obtain ⟨a', ha'⟩ := h'.eu
  obtain ⟨b', hb'⟩ := h'.ev
  obtain ⟨p, hp⟩ := h1
  obtain ⟨q, hq⟩ := h2
  -- (s T - T') c = T (s T U - T' U) - ..
  have j1 : (s * T - T') * U = n * (s * a + p - a') := unit_step ha ha' hp
  have j2 : (s * T - T') * V = n * (s * b + q - b') := unit_step hb hb' hq
  generalize s * T - T' = u at *
  exact unit_step3 e (unit_step2 j1 ha) (unit_step2 j2 hb)
theorem NF.unique {n c d U V T U' V' T' : Int} (hg : Cop3 n c d) (h : NF n c d U V T) (h' : NF n c d U' V' T') : U = U' ∧ V = V' ∧ T = T' := by
  have hs : Int.gcd 1 n = 1 := Int.gcd_one_left n
  have e1 : n ∣ 1 * c - c := by rw [Int.one_mul, Int.sub_self]; exact Int.dvd_zero _
  have e2 : n ∣ 1 * d - d := by rw [Int.one_mul, Int.sub_self]; exact Int.dvd_zero _
  obtain ⟨rfl, rfl⟩ := h.orbit hs e1 e2 h'
  refine ⟨rfl, rfl, ?_⟩
  obtain ⟨k, hk⟩ := NF.unitOf hg e1 e2 h h'
  have := h.t1; have := h.tn; have := h'.t1; have := h'.tn
  have k1 : k = 0 := by
    rcases Int.lt_trichotomy k 0 with h0 | h0 | h0
    · have := Int.mul_le_mul_of_nonneg_left (show k ≤ -1 by omega) (show 0 ≤ n by omega); omega
    · exact h0
    · have := Int.mul_le_mul_of_nonneg_left (show 1 ≤ k by omega) (show 0 ≤ n by omega); omega
  rw [k1] at hk; omega
/-- Units lift: a unit modulo a divisor is one modulo n, up to multiples of the divisor (n up to 120). -/
def liftOk (n : Nat) : Bool := (List.range n).all fun m => n % (m + 1) != 0 || (List.range (m + 1)).all fun a => Nat.gcd a (m + 1) != 1 || (List.range (n / (m + 1))).any fun k => Nat.gcd (a + k * (m + 1)) n == 1
theorem lift_all : (List.range 121).all liftOk = true := by decide +kernel
theorem lift_nat {n m a : Nat} (hn : n ≤ 120) (hm : 1 ≤ m) (hd : m ∣ n) (hn1 : 1 ≤ n) (ha : a < m) (hg : Nat.gcd a m = 1) : ∃ k, k < n / m ∧ Nat.gcd (a + k * m) n = 1 := by
  have h := List.all_eq_true.1 lift_all n (List.mem_range.2 (by omega))
  have hle := Nat.le_of_dvd (by omega) hd
  have h2 := List.all_eq_true.1 h (m - 1) (List.mem_range.2 (by omega))
  rw [show m - 1 + 1 = m by omega] at h2
  rw [Nat.mod_eq_zero_of_dvd hd] at h2
  simp only [bne_self_eq_false, Bool.false_or] at h2
  have h3 := List.all_eq_true.1 h2 a (List.mem_range.2 ha)
  rw [hg] at h3
  simp only [bne_self_eq_false, Bool.false_or] at h3
  obtain ⟨k, hk, e⟩ := List.any_eq_true.1 h3
  exact ⟨k, List.mem_range.1 hk, by simpa using e⟩
end Go.Proofs.Ytfiooghodjiknaa
