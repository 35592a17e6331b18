/- Plain mathematics of the projective line modulo n: the normal form of a pair. What the loops of normal and of Least keep, and that their ends are normal forms. Plain mathematics of the list of the projective line: which pairs are normal forms. The plain functions of seconds and list, and what their loops do. Plain mathematics: the place of a point in the list. -/
import Derived.Test.YtmikhkolbkdnpaaRows
namespace Go.Proofs.Ytmikhkolbkdnpaa

theorem bez_nat (a b : Nat) : ∃ x y : Int, (Nat.gcd a b : Int) = a * x + b * y := by
  induction a, b using Nat.gcd.induction with
  | H0 b => exact ⟨0, 1, by simp⟩
  | H1 a b ha ih =>
    obtain ⟨x, y, h⟩ := ih
    refine ⟨y - (b / a : Nat) * x, x, ?_⟩
    rw [Nat.gcd_rec, h]
    have e : (b : Int) = a * (b / a : Nat) + (b % a : Nat) := by
      rw [← Int.natCast_mul, ← Int.natCast_add, Nat.div_add_mod]
    generalize ((b / a : Nat) : Int) = q at *
    generalize ((b % a : Nat) : Int) = r at *
    grind
theorem bez (a b : Int) : ∃ x y : Int, (Int.gcd a b : Int) = a * x + b * y := by
  obtain ⟨x, y, h⟩ := bez_nat a.natAbs b.natAbs
  have h2 : (Int.gcd a b : Int) = (a.natAbs : Int) * x + (b.natAbs : Int) * y := h
  rw [h2]
  rcases Int.natAbs_eq a with ha | ha <;> rcases Int.natAbs_eq b with hb | hb
  · exact ⟨x, y, by rw [← ha, ← hb]⟩
  · exact ⟨x, -y, by rw [← ha]; grind⟩
  · exact ⟨-x, y, by rw [← hb]; grind⟩
  · exact ⟨-x, -y, by grind⟩
theorem unit_inv {s n : Int} (h : Int.gcd s n = 1) : ∃ r : Int, n ∣ s * r - 1 := by
  obtain ⟨x, y, e⟩ := bez s n
  rw [h] at e
  exact ⟨x, -y, by grind⟩
theorem unit_of {s r n : Int} (h : n ∣ s * r - 1) : Int.gcd s n = 1 := by
  have h1 : ((Int.gcd s n : Nat) : Int) ∣ s := Int.gcd_dvd_left _ _
  have h2 : ((Int.gcd s n : Nat) : Int) ∣ n := Int.gcd_dvd_right _ _
  have h3 : ((Int.gcd s n : Nat) : Int) ∣ 1 := by
    have e : (1 : Int) = s * r - (s * r - 1) := by omega
    rw [e]
    exact Int.dvd_sub (Int.dvd_mul_of_dvd_left h1) (Int.dvd_trans h2 h)
  have := Int.natAbs_dvd_natAbs.2 h3
  simpa using this
theorem unit_of' {s r n : Int} (h : n ∣ s * r - 1) : Int.gcd r n = 1 := unit_of (s := r) (r := s) (by rwa [Int.mul_comm])
theorem unit_mul {s t n : Int} (h : Int.gcd s n = 1) (k : Int.gcd t n = 1) : Int.gcd (s * t) n = 1 := by
  obtain ⟨a, x, ha⟩ := unit_inv h
  obtain ⟨b, y, hb⟩ := unit_inv k
  exact unit_of (r := a * b) ⟨x + y + n * x * y, by grind⟩
theorem unit_mod {s n : Int} (h : Int.gcd s n = 1) : Int.gcd (s % n) n = 1 := by
  obtain ⟨a, x, ha⟩ := unit_inv h
  have e := Int.mul_ediv_add_emod s n
  exact unit_of (r := a) ⟨x - s / n * a, by generalize s / n = q at *; generalize s % n = r at *; grind⟩
theorem mod_of {n a x : Int} (h : n ∣ a - x) (h0 : 0 ≤ x) (h1 : x < n) : a % n = x := by
  obtain ⟨k, hk⟩ := h
  rw [show a = x + n * k by omega, Int.add_mul_emod_self_left]
  exact Int.emod_eq_of_lt h0 h1
theorem dvd_mod (a n : Int) : n ∣ a - a % n := ⟨a / n, by have := Int.mul_ediv_add_emod a n; omega⟩
theorem same_of {n x y : Int} (h : n ∣ x - y) (x0 : 0 ≤ x) (x1 : x < n) (y0 : 0 ≤ y) (y1 : y < n) : x = y := by
  rw [← mod_of h y0 y1, Int.emod_eq_of_lt x0 x1]
/-- (U : V) is the normal form of (c : d), T its unit. -/
structure NF (n c d U V T : Int) : Prop where
  u0 : 0 ≤ U
  u1 : U < n
  v0 : 0 ≤ V
  v1 : V < n
  t1 : 1 ≤ T
  tn : T ≤ n
  cop : Int.gcd T n = 1
  eu : n ∣ T * U - c
  ev : n ∣ T * V - d
  least : ∀ s : Int, Int.gcd s n = 1 → U < (s * c) % n ∨ (U = (s * c) % n ∧ V ≤ (s * d) % n)
/-- No common divisor. -/
def Cop3 (n c d : Int) : Prop := ∃ x y z : Int, x * c + y * d + z * n = 1
theorem cop3_of {n c d : Int} (h : Int.gcd (Int.gcd c d) n = 1) : Cop3 n c d := by
  obtain ⟨x, y, e⟩ := bez c d
  obtain ⟨p, q, f⟩ := bez (Int.gcd c d) n
  rw [h] at f
  rw [e] at f
  exact ⟨x * p, y * p, q, by grind⟩
theorem cop3_gcd {n c d : Int} (h : Cop3 n c d) : Int.gcd (Int.gcd c d) n = 1 := by
  obtain ⟨x, y, z, e⟩ := h
  have h0 : ((Int.gcd (Int.gcd c d) n : Nat) : Int) ∣ (Int.gcd c d : Nat) := Int.gcd_dvd_left _ _
  have h1 := Int.dvd_trans h0 (Int.gcd_dvd_left c d)
  have h2 := Int.dvd_trans h0 (Int.gcd_dvd_right c d)
  have h3 : ((Int.gcd (Int.gcd c d) n : Nat) : Int) ∣ n := Int.gcd_dvd_right _ _
  have h4 : ((Int.gcd (Int.gcd c d) n : Nat) : Int) ∣ 1 := by
    rw [← e]
    exact Int.dvd_add (Int.dvd_add (Int.dvd_mul_of_dvd_right h1) (Int.dvd_mul_of_dvd_right h2)) (Int.dvd_mul_of_dvd_right h3)
  have := Int.natAbs_dvd_natAbs.2 h4
  simpa using this
theorem NF.inv {n c d U V T : Int} (h : NF n c d U V T) : ∃ R : Int, Int.gcd R n = 1 ∧ n ∣ R * c - U ∧ n ∣ R * d - V := by
  obtain ⟨R, hR⟩ := unit_inv h.cop
  refine ⟨R, unit_of' hR, ?_, ?_⟩
  · obtain ⟨a, ha⟩ := hR
    obtain ⟨b, hb⟩ := h.eu
    exact ⟨a * U - R * b, by grind⟩
  · obtain ⟨a, ha⟩ := hR
    obtain ⟨b, hb⟩ := h.ev
    exact ⟨a * V - R * b, by grind⟩
theorem NF.le {n s c d c' d' U V T U' V' T' : Int} (hs : Int.gcd s n = 1) (h1 : n ∣ s * c - c') (h2 : n ∣ s * d - d') (h : NF n c d U V T) (h' : NF n c' d' U' V' T') : U < U' ∨ (U = U' ∧ V ≤ V') := by
  obtain ⟨R, hR, r1, r2⟩ := h'.inv
  have e1 : (R * s * c) % n = U' := by
    refine mod_of ?_ h'.u0 h'.u1
    obtain ⟨a, ha⟩ := r1
    obtain ⟨b, hb⟩ := h1
    exact ⟨a + R * b, by grind⟩
  have e2 : (R * s * d) % n = V' := by
    refine mod_of ?_ h'.v0 h'.v1
    obtain ⟨a, ha⟩ := r2
    obtain ⟨b, hb⟩ := h2
    exact ⟨a + R * b, by grind⟩
  have := h.least (R * s) (unit_mul hR hs)
  rwa [e1, e2] at this
theorem NF.orbit {n s c d c' d' U V T U' V' T' : Int} (hs : Int.gcd s n = 1) (h1 : n ∣ s * c - c') (h2 : n ∣ s * d - d') (h : NF n c d U V T) (h' : NF n c' d' U' V' T') : U = U' ∧ V = V' := by
  have k1 := h.le hs h1 h2 h'
  obtain ⟨r, hr⟩ := unit_inv hs
  have k2 := h'.le (s := r) (unit_of' hr)
    (by obtain ⟨a, ha⟩ := hr; obtain ⟨b, hb⟩ := h1; exact ⟨a * c - r * b, by grind⟩)
    (by obtain ⟨a, ha⟩ := hr; obtain ⟨b, hb⟩ := h2; exact ⟨a * d - r * b, by grind⟩) h
  omega
theorem unit_step {n s T T' U c c' a a' p : Int} (ha : T * U - c = n * a) (ha' : T' * U - c' = n * a') (hp : s * c - c' = n * p) : (s * T - T') * U = n * (s * a + p - a') := by
  have e1 : c = T * U - n * a := by omega
  have e2 : c' = T' * U - n * a' := by omega
  rw [e1, e2] at hp
  clear ha ha' e1 e2
  grind
theorem unit_step2 {n u U k T c a : Int} (hu : u * U = n * k) (ha : T * U - c = n * a) : u * c = n * (T * k - u * a) := by
  have e1 : c = T * U - n * a := by omega
  rw [e1]
  clear ha e1
  grind
theorem unit_step3 {n u c d x y z k l : Int} (e : x * c + y * d + z * n = 1) (h1 : u * c = n * k) (h2 : u * d = n * l) : n ∣ u := by
  refine ⟨x * k + y * l + z * u, ?_⟩
  have : u = u * (x * c + y * d + z * n) := by rw [e, Int.mul_one]
  have e1 : u * (x * c + y * d + z * n) = x * (u * c) + y * (u * d) + z * u * n := by clear e h1 h2 this; grind
  rw [e1, h1, h2] at this
  refine this.trans ?_
  clear e h1 h2 this e1
  grind
theorem NF.unitOf {n s c d c' d' U V T T' : Int} (hg : Cop3 n c d) (h1 : n ∣ s * c - c') (h2 : n ∣ s * d - d') (h : NF n c d U V T) (h' : NF n c' d' U V T') : n ∣ s * T - T' := by
  obtain ⟨x, y, z, e⟩ := hg
  obtain ⟨a, ha⟩ := h.eu
  obtain ⟨b, hb⟩ := h.ev
  obtain ⟨a', ha'⟩ := h'.eu
  obtain ⟨b', hb'⟩ := h'.ev
  obtain ⟨p, hp⟩ := h1
  obtain ⟨q, hq⟩ := h2
  -- (s T - T') c = T (s T U - T' U) - ..
  have j1 : (s * T - T') * U = n * (s * a + p - a') := unit_step ha ha' hp
  have j2 : (s * T - T') * V = n * (s * b + q - b') := unit_step hb hb' hq
  generalize s * T - T' = u at *
  exact unit_step3 e (unit_step2 j1 ha) (unit_step2 j2 hb)
theorem NF.unique {n c d U V T U' V' T' : Int} (hg : Cop3 n c d) (h : NF n c d U V T) (h' : NF n c d U' V' T') : U = U' ∧ V = V' ∧ T = T' := by
  have hs : Int.gcd 1 n = 1 := Int.gcd_one_left n
  have e1 : n ∣ 1 * c - c := by rw [Int.one_mul, Int.sub_self]; exact Int.dvd_zero _
  have e2 : n ∣ 1 * d - d := by rw [Int.one_mul, Int.sub_self]; exact Int.dvd_zero _
  obtain ⟨rfl, rfl⟩ := h.orbit hs e1 e2 h'
  refine ⟨rfl, rfl, ?_⟩
  obtain ⟨k, hk⟩ := NF.unitOf hg e1 e2 h h'
  have := h.t1; have := h.tn; have := h'.t1; have := h'.tn
  have k1 : k = 0 := by
    rcases Int.lt_trichotomy k 0 with h0 | h0 | h0
    · have := Int.mul_le_mul_of_nonneg_left (show k ≤ -1 by omega) (show 0 ≤ n by omega); omega
    · exact h0
    · have := Int.mul_le_mul_of_nonneg_left (show 1 ≤ k by omega) (show 0 ≤ n by omega); omega
  rw [k1] at hk; omega
/-- Units lift: a unit modulo a divisor is one modulo n, up to multiples of the divisor (n up to 120). -/
def liftOk (n : Nat) : Bool := (List.range n).all fun m => n % (m + 1) != 0 || (List.range (m + 1)).all fun a => Nat.gcd a (m + 1) != 1 || (List.range (n / (m + 1))).any fun k => Nat.gcd (a + k * (m + 1)) n == 1
theorem lift_all : (List.range 121).all liftOk = true := by decide +kernel
theorem lift_nat {n m a : Nat} (hn : n ≤ 120) (hm : 1 ≤ m) (hd : m ∣ n) (hn1 : 1 ≤ n) (ha : a < m) (hg : Nat.gcd a m = 1) : ∃ k, k < n / m ∧ Nat.gcd (a + k * m) n = 1 := by
  have h := List.all_eq_true.1 lift_all n (List.mem_range.2 (by omega))
  have hle := Nat.le_of_dvd (by omega) hd
  have h2 := List.all_eq_true.1 h (m - 1) (List.mem_range.2 (by omega))
  rw [show m - 1 + 1 = m by omega] at h2
  rw [Nat.mod_eq_zero_of_dvd hd] at h2
  simp only [bne_self_eq_false, Bool.false_or] at h2
  have h3 := List.all_eq_true.1 h2 a (List.mem_range.2 ha)
  rw [hg] at h3
  simp only [bne_self_eq_false, Bool.false_or] at h3
  obtain ⟨k, hk, e⟩ := List.any_eq_true.1 h3
  exact ⟨k, List.mem_range.1 hk, by simpa using e⟩
end Go.Proofs.Ytmikhkolbkdnpaa
namespace Go.Proofs.Ytmikhkolbkdnpaa
set_option linter.unusedVariables false

/-- The best unit of the progression a, a + m, .. below t. -/
def Best (n d m a t v f : Int) : Prop :=
  (v = n ∧ f = 0 ∧ ∀ s, 0 ≤ s → s < t → m ∣ s - a → ¬ Int.gcd s n = 1) ∨
  (v = f * d % n ∧ 0 ≤ f ∧ f < n ∧ Int.gcd f n = 1 ∧ m ∣ f - a ∧ ∀ s, 0 ≤ s → s < t → m ∣ s - a → Int.gcd s n = 1 → v ≤ s * d % n)
theorem emod_mul' (s c n : Int) : s % n * c % n = s * c % n := by
  rw [Int.mul_emod, Int.emod_emod_of_dvd _ (Int.dvd_refl n), ← Int.mul_emod]
theorem dvd_small {m x : Int} (h : m ∣ x) (h0 : 0 ≤ x) (h1 : x < m) : x = 0 := by
  have e := Int.emod_eq_of_lt h0 h1
  rw [Int.emod_eq_zero_of_dvd h] at e
  exact e.symm
theorem prog_last {m a s t : Int} (hs : m ∣ s - a) (ht : m ∣ t - a) (h0 : t ≤ s) (h1 : s < t + m) : s = t := by
  have h := Int.dvd_sub hs ht
  rw [show s - a - (t - a) = s - t by omega] at h
  have := dvd_small h (by omega) (by omega)
  omega
theorem Best.start {n d m a : Int} (a0 : 0 ≤ a) (a1 : a < m) : Best n d m a a n 0 := .inl ⟨rfl, rfl, fun s s0 s1 hd => by
  exfalso
  have h := Int.dvd_neg.2 hd
  rw [show -(s - a) = a - s by omega] at h
  have := dvd_small h (by omega) (by omega)
  omega⟩
theorem Best.take {n d m a t v f : Int} (h : Best n d m a t v f) (n1 : 1 ≤ n) (t0 : 0 ≤ t) (t1 : t < n) (ht : m ∣ t - a) (hv : t * d % n < v) (hg : Int.gcd t n = 1) : Best n d m a (t + m) (t * d % n) t := by
  refine .inr ⟨rfl, t0, t1, hg, ht, fun s s0 s1 hd hs => ?_⟩
  by_cases hst : t ≤ s
  · rw [prog_last hd ht hst s1]; omega
  · rcases h with ⟨_, _, h⟩ | ⟨_, _, _, _, _, h⟩
    · exact absurd hs (h s s0 (by omega) hd)
    · have := h s s0 (by omega) hd hs; omega
theorem Best.skip {n d m a t v f : Int} (h : Best n d m a t v f) (n1 : 1 ≤ n) (ht : m ∣ t - a) (hv : v ≤ t * d % n ∨ ¬ Int.gcd t n = 1) : Best n d m a (t + m) v f := by
  rcases h with ⟨h1, h2, h⟩ | ⟨h1, h2, h3, h4, h5, h⟩
  · refine .inl ⟨h1, h2, fun s s0 s1 hd hs => ?_⟩
    by_cases hst : t ≤ s
    · obtain rfl := prog_last hd ht hst s1
      rcases hv with hv | hv
      · have := Int.emod_lt_of_pos (s * d) (show 0 < n by omega); omega
      · exact hv hs
    · exact h s s0 (by omega) hd hs
  · refine .inr ⟨h1, h2, h3, h4, h5, fun s s0 s1 hd hs => ?_⟩
    by_cases hst : t ≤ s
    · obtain rfl := prog_last hd ht hst s1
      rcases hv with hv | hv
      · exact hv
      · exact absurd hs hv
    · exact h s s0 (by omega) hd hs
theorem Best.v_le {n d m a t v f : Int} (h : Best n d m a t v f) (n1 : 1 ≤ n) : 0 ≤ v ∧ v ≤ n ∧ 0 ≤ f ∧ f ≤ n := by
  rcases h with ⟨h1, h2, _⟩ | ⟨h1, h2, h3, _⟩
  · omega
  · have := Int.emod_lt_of_pos (f * d) (show 0 < n by omega)
    have := Int.emod_nonneg (f * d) (show n ≠ 0 by omega)
    omega
theorem lift_int {n m a : Int} (n1 : 1 ≤ n) (n2 : n ≤ 120) (m1 : 1 ≤ m) (hm : m ∣ n) (a0 : 0 ≤ a) (a1 : a < m) (hg : Int.gcd a m = 1) : ∃ s, 0 ≤ s ∧ s < n ∧ m ∣ s - a ∧ Int.gcd s n = 1 := by
  have hd : m.natAbs ∣ n.natAbs := Int.natAbs_dvd_natAbs.2 hm
  obtain ⟨k, hk, e⟩ := lift_nat (n := n.natAbs) (m := m.natAbs) (a := a.natAbs) (by omega) (by omega) hd (by omega) (by omega) hg
  have hx : (k + 1) * m.natAbs ≤ n.natAbs := by
    have := Nat.mul_le_mul_right m.natAbs (show k + 1 ≤ n.natAbs / m.natAbs by omega)
    rwa [Nat.div_mul_cancel hd] at this
  rw [Nat.add_mul] at hx
  refine ⟨((a.natAbs + k * m.natAbs : Nat) : Int), by omega, by omega, ⟨(k : Int), ?_⟩, ?_⟩
  · rw [Int.natCast_add, Int.natCast_mul, show ((m.natAbs : Nat) : Int) = m by omega, show ((a.natAbs : Nat) : Int) = a by omega, Int.mul_comm m]
    omega
  · show Nat.gcd _ _ = 1
    rw [Int.natAbs_natCast]; exact e
theorem Best.done {n d m a t v f : Int} (h : Best n d m a t v f) (n1 : 1 ≤ n) (n2 : n ≤ 120) (m1 : 1 ≤ m) (hm : m ∣ n) (a0 : 0 ≤ a) (a1 : a < m) (hg : Int.gcd a m = 1) (ht : n ≤ t) :
    v = f * d % n ∧ 0 ≤ f ∧ f < n ∧ Int.gcd f n = 1 ∧ m ∣ f - a ∧ ∀ s, 0 ≤ s → s < n → m ∣ s - a → Int.gcd s n = 1 → v ≤ s * d % n := by
  rcases h with ⟨_, _, h⟩ | ⟨h1, h2, h3, h4, h5, h⟩
  · obtain ⟨s, s0, s1, hs, hg⟩ := lift_int n1 n2 m1 hm a0 a1 hg
    exact absurd hg (h s s0 (by omega) hs)
  · exact ⟨h1, h2, h3, h4, h5, fun s s0 s1 => h s s0 (by omega)⟩
theorem nf_code {n c d g m a v f T : Int} (n1 : 1 ≤ n) (n2 : n ≤ 120) (c0 : 0 ≤ c) (c1 : c < n) (hg : g = Int.gcd c n) (hm : n = g * m) (a0 : 0 ≤ a) (a1 : a < m) (ha : m ∣ c / g * a - 1)
    {t : Int} (hb : Best n d m a t v f) (ht : n ≤ t) (T0 : 1 ≤ T) (T1 : T ≤ n) (hT : n ∣ f * T - 1) : NF n c d (g % n) v T := by
  have g0 : 0 ≤ g := by omega
  have g1 : 1 ≤ g := by
    rcases Int.lt_or_le g 1 with h | h
    · have : g = 0 := by omega
      rw [this, Int.zero_mul] at hm; omega
    · exact h
  have m1 : 1 ≤ m := by omega
  have hgc : g ∣ c := by rw [hg]; exact Int.gcd_dvd_left _ _
  obtain ⟨c', hc'⟩ := hgc
  have hcg : c / g = c' := by rw [hc']; exact Int.mul_ediv_cancel_left _ (by omega)
  rw [hcg] at ha
  have hga : Int.gcd a m = 1 := unit_of' ha
  obtain ⟨h1, f0, f1, hf, hfa, hle⟩ := hb.done n1 n2 m1 ⟨g, by rw [hm, Int.mul_comm]⟩ a0 a1 hga ht
  have gn : g ≤ n := by
    have := Int.mul_le_mul_of_nonneg_left m1 g0; omega
  have key : n ∣ f * c - g := by
    obtain ⟨x, hx⟩ := hfa
    obtain ⟨y, hy⟩ := ha
    refine ⟨y + c' * x, ?_⟩
    rw [hm, hc', show f = a + m * x by omega]
    have : c' * a = m * y + 1 := by omega
    clear hx hy hm hc' hb hle hf h1 hT hcg hga
    grind
  have hU := dvd_mod g n
  refine ⟨Int.emod_nonneg _ (by omega), Int.emod_lt_of_pos _ (by omega), ?_, ?_, T0, T1, unit_of' hT, ?_, ?_, ?_⟩
  · rw [h1]; exact Int.emod_nonneg _ (by omega)
  · rw [h1]; exact Int.emod_lt_of_pos _ (by omega)
  · obtain ⟨x, hx⟩ := hU
    obtain ⟨y, hy⟩ := key
    obtain ⟨z, hz⟩ := hT
    refine ⟨c * z - T * y - T * x, ?_⟩
    rw [show g % n = g - n * x by omega, show g = f * c - n * y by omega]
    have : f * T = n * z + 1 := by omega
    clear hx hy hz hm hc' hb hle hf h1 hcg hga hg
    grind
  · obtain ⟨z, hz⟩ := hT
    obtain ⟨x, hx⟩ := dvd_mod (f * d) n
    refine ⟨d * z - T * x, ?_⟩
    rw [h1, show f * d % n = f * d - n * x by omega]
    have : f * T = n * z + 1 := by omega
    clear hx hz hm hc' hb hle hf h1 hcg hga hg key hU
    grind
  · intro s hs
    have r0 := Int.emod_nonneg (s * c) (show n ≠ 0 by omega)
    have r1 := Int.emod_lt_of_pos (s * c) (show 0 < n by omega)
    obtain ⟨w, hw⟩ := dvd_mod (s * c) n
    have hgr : g ∣ s * c % n := by
      refine ⟨s * c' - m * w, ?_⟩
      rw [show s * c % n = s * c - n * w by omega, hc', hm]
      clear hm hc' hb hle hf h1 hcg hga hg key hU hw
      grind
    by_cases hz : s * c % n = 0
    · have hnc : n ∣ c := by
        obtain ⟨q, x, hx⟩ := unit_inv hs
        refine ⟨q * w - c * x, ?_⟩
        have e1 : s * c = n * w := by omega
        have e2 : s * q = n * x + 1 := by omega
        have e3 : q * (s * c) = c * (s * q) := by clear e1 e2 hz hw; grind
        rw [e1, e2] at e3
        clear hx hm hc' hb hle hf h1 hcg hga hg key hU
        grind
      have hc0 := dvd_small hnc c0 c1
      have hgn : g = n := by rw [hg, hc0, Int.gcd_zero_left]; omega
      rw [hgn, Int.emod_self, hz]
      refine .inr ⟨rfl, ?_⟩
      have hm1 : m = 1 := by
        rw [hgn] at hm
        have e : n * (m - 1) = 0 := by rw [Int.mul_sub, ← hm]; omega
        rcases Int.mul_eq_zero.1 e with h | h <;> omega
      have := hle (s % n) (Int.emod_nonneg _ (by omega)) (Int.emod_lt_of_pos _ (by omega)) (by rw [hm1]; exact Int.one_dvd _) (unit_mod hs)
      rwa [emod_mul'] at this
    · have hgle : g ≤ s * c % n := Int.le_of_dvd (by omega) hgr
      have hgm : g % n = g := Int.emod_eq_of_lt g0 (by omega)
      rw [hgm]
      by_cases he : g = s * c % n
      · refine .inr ⟨he, ?_⟩
        have hsa : m ∣ s - a := by
          obtain ⟨y, hy⟩ := ha
          have e1 : s * c - g = n * w := by omega
          have e2 : g * (s * c' - 1 - m * w) = 0 := by
            rw [hc', hm] at e1
            clear hy hz hm hc' hb hle hf h1 hcg hga hg key hU hw hT
            grind
          have e3 : s * c' - 1 - m * w = 0 := by
            rcases Int.mul_eq_zero.1 e2 with h | h
            · omega
            · exact h
          refine ⟨a * w - s * y, ?_⟩
          have e4 : c' * a = m * y + 1 := by omega
          have e5 : s * c' = m * w + 1 := by omega
          have e6 : a * (s * c') = s * (c' * a) := by clear e1 e2 e3 e4 e5; grind
          rw [e4, e5] at e6
          clear hy hz hm hc' hb hle hf h1 hcg hga hg key hU hw hT e1 e2 e3 e4 e5
          grind
        have hsm : m ∣ s % n - a := by
          obtain ⟨x, hx⟩ := dvd_mod s n
          obtain ⟨y, hy⟩ := hsa
          refine ⟨y - g * x, ?_⟩
          rw [show s % n = s - n * x by omega, hm, show s = a + m * y by omega]
          clear hy hz hm hc' hb hle hf h1 hcg hga hg key hU hw hT hx
          grind
        have := hle (s % n) (Int.emod_nonneg _ (by omega)) (Int.emod_lt_of_pos _ (by omega)) hsm (unit_mod hs)
        rwa [emod_mul'] at this
      · exact .inl (by omega)
/-- The state of the reference's search before s is looked at. -/
def LSt (n c d s U V S : Int) : Prop :=
  (s = 1 ∧ U = n ∧ V = n ∧ S = 0) ∨
  (1 ≤ S ∧ S < s ∧ Int.gcd S n = 1 ∧ U = S * c % n ∧ V = S * d % n ∧ ∀ r, 1 ≤ r → r < s → Int.gcd r n = 1 → U < r * c % n ∨ (U = r * c % n ∧ V ≤ r * d % n))
theorem LSt.bd {n c d s U V S : Int} (h : LSt n c d s U V S) (n1 : 1 ≤ n) : 0 ≤ U ∧ U ≤ n ∧ 0 ≤ V ∧ V ≤ n ∧ 0 ≤ S ∧ S ≤ s := by
  rcases h with h | ⟨h1, h2, _, h4, h5, _⟩
  · omega
  · have := Int.emod_lt_of_pos (S * c) (show 0 < n by omega)
    have := Int.emod_nonneg (S * c) (show n ≠ 0 by omega)
    have := Int.emod_lt_of_pos (S * d) (show 0 < n by omega)
    have := Int.emod_nonneg (S * d) (show n ≠ 0 by omega)
    omega
theorem LSt.skip {n c d s U V S : Int} (h : LSt n c d s U V S) (s1 : 1 ≤ s) (hg : ¬ Int.gcd s n = 1) : LSt n c d (s + 1) U V S := by
  rcases h with ⟨h1, _⟩ | ⟨h1, h2, h3, h4, h5, h⟩
  · subst h1; exact absurd (Int.gcd_one_left n) hg
  · refine .inr ⟨h1, by omega, h3, h4, h5, fun r r1 r2 hr => ?_⟩
    by_cases e : r = s
    · subst e; exact absurd hr hg
    · exact h r r1 (by omega) hr
theorem LSt.take {n c d s U V S : Int} (h : LSt n c d s U V S) (n1 : 1 ≤ n) (s1 : 1 ≤ s) (hg : Int.gcd s n = 1) (hl : s * c % n < U ∨ (s * c % n = U ∧ s * d % n < V)) : LSt n c d (s + 1) (s * c % n) (s * d % n) s := by
  refine .inr ⟨s1, by omega, hg, rfl, rfl, fun r r1 r2 hr => ?_⟩
  by_cases e : r = s
  · subst e; exact .inr ⟨rfl, by omega⟩
  · rcases h with ⟨h1, _⟩ | ⟨_, _, _, _, _, h⟩
    · omega
    · have := h r r1 (by omega) hr
      omega
theorem LSt.keep {n c d s U V S : Int} (h : LSt n c d s U V S) (n1 : 1 ≤ n) (s1 : 1 ≤ s) (hl : ¬ s * c % n < U) (hl2 : ¬ (s * c % n = U ∧ s * d % n < V)) : LSt n c d (s + 1) U V S := by
  rcases h with ⟨h1, h2, _⟩ | ⟨h1, h2, h3, h4, h5, h⟩
  · have := Int.emod_lt_of_pos (s * c) (show 0 < n by omega); omega
  · refine .inr ⟨h1, by omega, h3, h4, h5, fun r r1 r2 hr => ?_⟩
    by_cases e : r = s
    · subst e; omega
    · exact h r r1 (by omega) hr
theorem LSt.nf {n c d s U V S T : Int} (h : LSt n c d s U V S) (n1 : 1 ≤ n) (hs : n < s) (T1 : 1 ≤ T) (T2 : T ≤ n) (hT : n ∣ T * S - 1) : NF n c d U V T := by
  rcases h with ⟨h1, _⟩ | ⟨h1, h2, h3, h4, h5, h⟩
  · omega
  · refine ⟨?_, ?_, ?_, ?_, T1, T2, unit_of hT, ?_, ?_, ?_⟩
    · rw [h4]; exact Int.emod_nonneg _ (by omega)
    · rw [h4]; exact Int.emod_lt_of_pos _ (by omega)
    · rw [h5]; exact Int.emod_nonneg _ (by omega)
    · rw [h5]; exact Int.emod_lt_of_pos _ (by omega)
    · obtain ⟨x, hx⟩ := dvd_mod (S * c) n
      obtain ⟨y, hy⟩ := hT
      refine ⟨y * c - T * x, ?_⟩
      rw [h4, show S * c % n = S * c - n * x by omega]
      have : T * S = n * y + 1 := by omega
      clear hx hy h h3 h4 h5
      grind
    · obtain ⟨x, hx⟩ := dvd_mod (S * d) n
      obtain ⟨y, hy⟩ := hT
      refine ⟨y * d - T * x, ?_⟩
      rw [h5, show S * d % n = S * d - n * x by omega]
      have : T * S = n * y + 1 := by omega
      clear hx hy h h3 h4 h5
      grind
    · intro r hr
      by_cases e : r % n = 0
      · have hn : n = 1 := by
          have := unit_mod hr
          rw [e, Int.gcd_zero_left] at this
          omega
        subst hn
        rw [Int.emod_one, Int.emod_one]
        rw [Int.emod_one] at h4 h5
        omega
      · have := h (r % n) (by have := Int.emod_nonneg r (show n ≠ 0 by omega); omega) (by have := Int.emod_lt_of_pos r (show 0 < n by omega); omega) (unit_mod hr)
        rwa [emod_mul', emod_mul'] at this
theorem LSt.unit {n c d s U V S : Int} (h : LSt n c d s U V S) (n1 : 1 ≤ n) (hs : n < s) : Int.gcd S n = 1 ∧ 1 ≤ S := by
  rcases h with ⟨h1, _⟩ | ⟨h1, h2, h3, _⟩
  · omega
  · exact ⟨h3, h1⟩
theorem inv_some {n S : Int} (n1 : 1 ≤ n) (h : Int.gcd S n = 1) : ∃ T, 1 ≤ T ∧ T ≤ n ∧ n ∣ T * S - 1 := by
  obtain ⟨r, x, hx⟩ := unit_inv h
  obtain ⟨y, hy⟩ := dvd_mod r n
  by_cases e : r % n = 0
  · have h1 : n ∣ 1 := by
      refine ⟨S * y - x, ?_⟩
      have e1 : r = n * y := by omega
      rw [e1] at hx
      clear e hy e1
      grind
    have : n = 1 := by have := Int.le_of_dvd (by decide) h1; omega
    subst this
    exact ⟨1, by omega, by omega, Int.one_dvd _⟩
  · refine ⟨r % n, by have := Int.emod_nonneg r (show n ≠ 0 by omega); omega, by have := Int.emod_lt_of_pos r (show 0 < n by omega); omega, x - y * S, ?_⟩
    rw [show r % n = r - n * y by omega]
    clear hy e
    grind
end Go.Proofs.Ytmikhkolbkdnpaa
namespace Go.Proofs.Ytmikhkolbkdnpaa
set_option linter.unusedVariables false

theorem lst_some {n c d : Int} (n1 : 1 ≤ n) (k : Nat) : ∃ U V S, LSt n c d (k + 1) U V S := by
  induction k with
  | zero => exact ⟨n, n, 0, .inl ⟨by omega, rfl, rfl, rfl⟩⟩
  | succ k ih =>
    obtain ⟨U, V, S, h⟩ := ih
    have e : ((k + 1 : Nat) : Int) + 1 = ((k : Int) + 1) + 1 := by omega
    rw [e]
    by_cases hg : Int.gcd ((k : Int) + 1) n = 1
    · by_cases h1 : ((k : Int) + 1) * c % n < U ∨ (((k : Int) + 1) * c % n = U ∧ ((k : Int) + 1) * d % n < V)
      · exact ⟨_, _, _, h.take n1 (by omega) hg h1⟩
      · exact ⟨_, _, _, h.keep n1 (by omega) (fun h2 => h1 (.inl h2)) (fun h2 => h1 (.inr h2))⟩
    · exact ⟨_, _, _, h.skip (by omega) hg⟩
theorem nf_some {n : Int} (n1 : 1 ≤ n) (c d : Int) : ∃ U V T, NF n c d U V T := by
  obtain ⟨U, V, S, h⟩ := lst_some (c := c) (d := d) n1 n.toNat
  obtain ⟨h1, _⟩ := h.unit n1 (by omega)
  obtain ⟨T, t1, t2, hT⟩ := inv_some n1 h1
  exact ⟨U, V, T, h.nf n1 (by omega) t1 t2 hT⟩
/-- (u : v) is a normal form. -/
structure Pt (n u v : Int) : Prop where
  cop : Cop3 n u v
  nf : NF n u v u v 1
/-- A normal form's class has it as its own normal form. -/
theorem NF.self {n c d U V T : Int} (n1 : 1 ≤ n) (h : NF n c d U V T) : NF n U V U V 1 := by
  refine ⟨h.u0, h.u1, h.v0, h.v1, by omega, n1, Int.gcd_one_left n, ⟨0, by omega⟩, ⟨0, by omega⟩, fun s hs => ?_⟩
  obtain ⟨R, hR, r1, r2⟩ := h.inv
  have := h.least (s * R) (unit_mul hs hR)
  have e1 : s * R * c % n = s * U % n := by
    refine Int.emod_eq_emod_iff_emod_sub_eq_zero.2 (Int.emod_eq_zero_of_dvd ?_)
    obtain ⟨a, ha⟩ := r1
    exact ⟨s * a, by clear this r2 hs hR; grind⟩
  have e2 : s * R * d % n = s * V % n := by
    refine Int.emod_eq_emod_iff_emod_sub_eq_zero.2 (Int.emod_eq_zero_of_dvd ?_)
    obtain ⟨a, ha⟩ := r2
    exact ⟨s * a, by clear this r1 hs hR; grind⟩
  rwa [e1, e2] at this
theorem Cop3.move {n c d s c' d' : Int} (h : Cop3 n c' d') (h1 : n ∣ s * c - c') (h2 : n ∣ s * d - d') : Cop3 n c d := by
  obtain ⟨x, y, z, e⟩ := h
  obtain ⟨a, ha⟩ := h1
  obtain ⟨b, hb⟩ := h2
  refine ⟨x * s, y * s, z - x * a - y * b, ?_⟩
  have e1 : c' = s * c - n * a := by omega
  have e2 : d' = s * d - n * b := by omega
  rw [e1, e2] at e
  clear ha hb e1 e2
  grind
theorem NF.cop3 {n c d U V T : Int} (h : NF n c d U V T) (hc : Cop3 n c d) : Cop3 n U V := hc.move h.eu h.ev
theorem pt_of {n c d U V T : Int} (n1 : 1 ≤ n) (h : NF n c d U V T) (hc : Cop3 n c d) : Pt n U V := ⟨h.cop3 hc, h.self n1⟩
/-- The least first coordinate. -/
theorem least_u {n u v U V T : Int} (n1 : 1 ≤ n) (hu0 : 0 ≤ u) (hu1 : u < n) (hu : u = 0 ∨ u ∣ n) (h : NF n u v U V T) : U = u := by
  have h1 := h.least 1 (Int.gcd_one_left n)
  rw [Int.one_mul, Int.one_mul, Int.emod_eq_of_lt hu0 hu1] at h1
  obtain ⟨k, hk⟩ := h.eu
  rcases hu with e | hd
  · have := h.u0; omega
  · by_cases hU : U = 0
    · have hnu : n ∣ u := ⟨-k, by rw [hU] at hk; rw [Int.mul_neg]; omega⟩
      have := dvd_small hnu hu0 hu1
      omega
    · obtain ⟨R, hR, ⟨a, ha⟩, _⟩ := h.inv
      have hdU : u ∣ U := by
        obtain ⟨m, hm⟩ := hd
        refine ⟨R - m * a, ?_⟩
        rw [show U = R * u - n * a by omega, hm]
        clear ha hm hk h1 hU
        grind
      have := h.u0
      have := Int.le_of_dvd (by omega) hdU
      omega
/-- A pair is a normal form exactly if no smaller one of its row goes to it. -/
theorem pt_iff {n u v : Int} (n1 : 1 ≤ n) (hu0 : 0 ≤ u) (hu1 : u < n) (hu : u = 0 ∨ u ∣ n) (hv0 : 0 ≤ v) (hv1 : v < n) (hc : Cop3 n u v) :
    Pt n u v ↔ ¬ ∃ v', 0 ≤ v' ∧ v' < v ∧ Pt n u v' ∧ ∃ t, Int.gcd t n = 1 ∧ t * u % n = u ∧ t * v' % n = v := by
  constructor
  · rintro h ⟨v', v0, v1, hp, t, ht, e1, e2⟩
    obtain ⟨r, hr⟩ := unit_inv ht
    have h1 := h.nf.least r (unit_of' hr)
    have k1 : n ∣ t * u - u := by have := dvd_mod (t * u) n; rwa [e1] at this
    have k2 : n ∣ t * v' - v := by have := dvd_mod (t * v') n; rwa [e2] at this
    obtain ⟨a, ha⟩ := hr
    have f1 : r * u % n = u := by
      refine mod_of ?_ hu0 hu1
      obtain ⟨b, hb⟩ := k1
      exact ⟨u * a - r * b, by clear k2 h1 e1 e2; grind⟩
    have f2 : r * v % n = v' := by
      refine mod_of ?_ v0 (by omega)
      obtain ⟨b, hb⟩ := k2
      exact ⟨v' * a - r * b, by clear k1 h1 e1 e2; grind⟩
    rw [f1, f2] at h1
    omega
  · intro h
    obtain ⟨U, V, T, hN⟩ := nf_some n1 u v
    have hU := least_u n1 hu0 hu1 hu hN
    subst hU
    have h1 := hN.least 1 (Int.gcd_one_left n)
    rw [Int.one_mul, Int.one_mul, Int.emod_eq_of_lt hu0 hu1, Int.emod_eq_of_lt hv0 hv1] at h1
    by_cases hV : V < v
    · exact absurd ⟨V, hN.v0, hV, pt_of n1 hN hc, T, hN.cop, mod_of hN.eu hu0 hu1, mod_of hN.ev hv0 hv1⟩ h
    · have : V = v := by omega
      subst this
      exact ⟨hc, hN.self n1⟩
/-- A first coordinate that does not divide n gives no normal form. -/
theorem pt_no {n u v : Int} (n1 : 1 ≤ n) (n2 : n ≤ 120) (hu0 : 0 ≤ u) (hu1 : u < n) (hu : ¬ (u = 0 ∨ u ∣ n)) : ¬ Pt n u v := by
  intro h
  have hg0 : (Int.gcd u n : Int) ∣ u := Int.gcd_dvd_left _ _
  have hgn : (Int.gcd u n : Int) ∣ n := Int.gcd_dvd_right _ _
  have hgp : 1 ≤ (Int.gcd u n : Int) := by have := Int.gcd_pos_of_ne_zero_right (a := u) (b := n) (by omega); omega
  obtain ⟨c, hc⟩ := hg0
  obtain ⟨m, hm⟩ := hgn
  have hm1 : 1 ≤ m := by
    rcases Int.lt_or_le m 1 with h | h
    · have := Int.mul_le_mul_of_nonneg_left (show m ≤ 0 by omega) (show 0 ≤ (Int.gcd u n : Int) by omega); omega
    · exact h
  obtain ⟨x, y, e⟩ := bez u n
  -- a unit that takes u to its common divisor with n
  have hco : Int.gcd (x % m) m = 1 := by
    refine unit_mod (unit_of (r := c) ⟨-y, ?_⟩)
    have k : (Int.gcd u n : Int) * (c * x + m * y - 1) = 0 := by
      have e2 : (Int.gcd u n : Int) * c * x + (Int.gcd u n : Int) * m * y = Int.gcd u n := by rw [← hc, ← hm]; exact e.symm
      generalize (Int.gcd u n : Int) = g at *
      clear hc hm e
      grind
    rcases Int.mul_eq_zero.1 k with k | k
    · omega
    · rw [Int.mul_comm x c, Int.mul_neg]; omega
  obtain ⟨s, s0, s1, hs, hsg⟩ := lift_int n1 n2 hm1 ⟨_, by rw [Int.mul_comm]; exact hm⟩ (Int.emod_nonneg x (by omega)) (Int.emod_lt_of_pos x (by omega)) hco
  have hsx : m ∣ s - x := by
    have := Int.dvd_sub hs (dvd_mod x m)
    rwa [show s - x % m - (x - x % m) = s - x by omega] at this
  have hlt : (Int.gcd u n : Int) < n := by
    have := Int.le_of_dvd (by omega) (show (Int.gcd u n : Int) ∣ n from ⟨m, hm⟩)
    rcases Int.lt_or_le (Int.gcd u n : Int) n with h | h
    · exact h
    · exfalso
      have e2 : (Int.gcd u n : Int) = n := by omega
      have : n ∣ u := ⟨c, by rw [← e2]; exact hc⟩
      exact hu (.inl (dvd_small this hu0 hu1))
  have hmod : s * u % n = Int.gcd u n := by
    refine mod_of ?_ (by omega) hlt
    obtain ⟨a, ha⟩ := hsx
    refine ⟨c * a - y, ?_⟩
    have e3 : s = x + m * a := by omega
    have e4 : (Int.gcd u n : Int) = u * x + n * y := e
    rw [e3, e4]
    have e5 : m * a * u = n * (c * a) := by
      have : m * a * ((Int.gcd u n : Int) * c) = (Int.gcd u n : Int) * m * (c * a) := by
        generalize (Int.gcd u n : Int) = g
        clear hc hm e ha e3 e4
        grind
      rw [← hc, ← hm] at this
      exact this
    rw [Int.add_mul, e5, Int.mul_sub]
    have : x * u = u * x := Int.mul_comm _ _
    omega
  have h1 := h.nf.least s hsg
  rw [hmod] at h1
  have hne : ¬ (Int.gcd u n : Int) = u := fun e => hu (.inr (by rw [← e]; exact ⟨m, hm⟩))
  have hle : (Int.gcd u n : Int) ≤ u := by
    by_cases h0 : u = 0
    · exact absurd (.inl h0) hu
    · exact Int.le_of_dvd (by omega) ⟨c, hc⟩
  omega
/-- The same, reckoned. -/
def ptB (n u v : Nat) : Bool := Nat.gcd (Nat.gcd u v) n == 1 && (List.range n).all fun s => Nat.gcd s n != 1 || (decide (u < s * u % n) || (s * u % n == u && decide (v ≤ s * v % n)))
theorem ptB_all {n u v : Nat} : ptB n u v = true ↔ Nat.gcd (Nat.gcd u v) n = 1 ∧ ∀ s, s < n → Nat.gcd s n = 1 → (u < s * u % n ∨ (s * u % n = u ∧ v ≤ s * v % n)) := by
  unfold ptB
  rw [Bool.and_eq_true, List.all_eq_true]
  simp only [beq_iff_eq, List.mem_range, Bool.or_eq_true, bne_iff_ne, ne_eq, decide_eq_true_eq, Bool.and_eq_true]
  constructor
  · rintro ⟨h1, h2⟩
    refine ⟨h1, fun s hs hg => ?_⟩
    rcases h2 s hs with h | h
    · exact absurd hg h
    · exact h
  · rintro ⟨h1, h2⟩
    refine ⟨h1, fun s hs => ?_⟩
    by_cases hg : Nat.gcd s n = 1
    · exact .inr (h2 s hs hg)
    · exact .inl hg
theorem cast_mm (s u n : Nat) : (s : Int) * (u : Int) % (n : Int) = ((s * u % n : Nat) : Int) := by rw [← Int.natCast_mul]; exact (Int.natCast_emod _ _).symm
theorem ptB_iff {n u v : Nat} (hu : u < n) (hv : v < n) : ptB n u v = true ↔ Pt n u v := by
  rw [ptB_all]
  constructor
  · rintro ⟨h1, h2⟩
    refine ⟨cop3_of h1, ⟨by omega, by omega, by omega, by omega, by omega, by omega, Int.gcd_one_left _, ⟨0, by omega⟩, ⟨0, by omega⟩, fun s hs => ?_⟩⟩
    have s0 := Int.emod_nonneg s (show (n : Int) ≠ 0 by omega)
    have s1 := Int.emod_lt_of_pos s (show 0 < (n : Int) by omega)
    have e : s % (n : Int) = ((s % (n : Int)).toNat : Int) := by omega
    have hg : Nat.gcd (s % (n : Int)).toNat n = 1 := by
      have := unit_mod hs
      rw [e] at this
      exact this
    have := h2 (s % (n : Int)).toNat (by omega) hg
    rw [← emod_mul' s u, ← emod_mul' s v, e, cast_mm, cast_mm]
    omega
  · intro h
    refine ⟨cop3_gcd h.cop, fun s hs hg => ?_⟩
    have := h.nf.least s hg
    rw [cast_mm, cast_mm] at this
    omega
def row (n u : Nat) : List Nat := (List.range n).filter (ptB n u)
def pts (n : Nat) : List (Nat × Nat) := (List.range n).flatMap fun u => (row n u).map fun v => (u, v)
theorem row_no {n u : Nat} (n1 : 1 ≤ n) (n2 : n ≤ 120) (hu1 : u < n) (hu : ¬ (u = 0 ∨ u ∣ n)) : row n u = [] := by
  unfold row
  rw [List.filter_eq_nil_iff]
  intro v hv hp
  refine pt_no (n := n) (u := u) (v := v) (by omega) (by omega) (by omega) (by omega) (fun h => hu ?_) ((ptB_iff hu1 (List.mem_range.1 hv)).1 hp)
  rcases h with h | h
  · exact .inl (by omega)
  · exact .inr (Int.ofNat_dvd.1 h)
theorem emit {n u v : Nat} (n1 : 1 ≤ n) (hu1 : u < n) (hu : u = 0 ∨ u ∣ n) (hv : v < n) :
    ptB n u v = true ↔ Nat.gcd (Nat.gcd u n) v = 1 ∧ ¬ ∃ v', v' < v ∧ ptB n u v' = true ∧ ∃ t, t < n ∧ Nat.gcd t n = 1 ∧ t * u % n = u ∧ t * v' % n = v := by
  have hgc : Nat.gcd (Nat.gcd u n) v = Nat.gcd (Nat.gcd u v) n := by rw [Nat.gcd_assoc, Nat.gcd_comm n v, ← Nat.gcd_assoc]
  rw [hgc]
  by_cases hc : Nat.gcd (Nat.gcd u v) n = 1
  case neg => exact ⟨fun h => absurd (ptB_all.1 h).1 hc, fun h => absurd h.1 hc⟩
  have hu' : (u : Int) = 0 ∨ (u : Int) ∣ n := by
    rcases hu with h | h
    · exact .inl (by omega)
    · exact .inr (Int.ofNat_dvd.2 h)
  rw [ptB_iff hu1 hv, pt_iff (by omega) (by omega) (by omega) hu' (by omega) (by omega) (cop3_of (n := (n : Int)) (c := (u : Int)) (d := (v : Int)) hc)]
  refine ⟨fun h => ⟨hc, ?_⟩, fun h => ?_⟩
  · rintro ⟨v', h1, h2, t, h3, h4, h5, h6⟩
    exact h ⟨v', by omega, by omega, (ptB_iff hu1 (by omega)).1 h2, t, h4, by rw [cast_mm, h5], by rw [cast_mm, h6]⟩
  · rintro ⟨v', h1, h2, h3, t, h4, h5, h6⟩
    have t0 := Int.emod_nonneg t (show (n : Int) ≠ 0 by omega)
    have t1 := Int.emod_lt_of_pos t (show 0 < (n : Int) by omega)
    have e : t % (n : Int) = ((t % (n : Int)).toNat : Int) := by omega
    have ev : v' = ((v'.toNat : Nat) : Int) := by omega
    refine h.2 ⟨v'.toNat, by omega, (ptB_iff hu1 (by omega)).2 (by rw [← ev]; exact h3), (t % (n : Int)).toNat, by omega, ?_, ?_, ?_⟩
    · have := unit_mod h4
      rw [e] at this
      exact this
    · rw [← emod_mul', e, cast_mm] at h5; omega
    · rw [← emod_mul', e, ev, cast_mm] at h6; omega
end Go.Proofs.Ytmikhkolbkdnpaa
namespace Go.Proofs.Ytmikhkolbkdnpaa
set_option linter.unusedVariables false

def unitsN (n : Nat) : List Nat := (List.range n).filter fun t => Nat.gcd t n == 1
def fixN (n u : Nat) : List Nat := (unitsN n).filter fun t => t * u % n == u
/-- The row as far as v. -/
def rwv (n u v : Nat) : List Nat := (List.range v).filter (ptB n u)
/-- What is marked before v. -/
def sn (n u v j : Nat) : Bool := (List.range v).any fun v' => ptB n u v' && (fixN n u).any fun t => t * v' % n == j
theorem rwv_row (n u : Nat) : rwv n u n = row n u := rfl
theorem mem_units {n t : Nat} : t ∈ unitsN n ↔ t < n ∧ Nat.gcd t n = 1 := by unfold unitsN; simp
theorem mem_fix {n u t : Nat} : t ∈ fixN n u ↔ (t < n ∧ Nat.gcd t n = 1) ∧ t * u % n = u := by unfold fixN; rw [List.mem_filter, mem_units]; simp
theorem sn_iff {n u v j : Nat} : sn n u v j = true ↔ ∃ v', v' < v ∧ ptB n u v' = true ∧ ∃ t, t < n ∧ Nat.gcd t n = 1 ∧ t * u % n = u ∧ t * v' % n = j := by
  unfold sn
  simp only [List.any_eq_true, List.mem_range, Bool.and_eq_true, beq_iff_eq, mem_fix]
  constructor
  · rintro ⟨v', h1, h2, t, ⟨⟨h3, h4⟩, h5⟩, h6⟩; exact ⟨v', h1, h2, t, h3, h4, h5, h6⟩
  · rintro ⟨v', h1, h2, t, h3, h4, h5, h6⟩; exact ⟨v', h1, h2, t, ⟨⟨h3, h4⟩, h5⟩, h6⟩
theorem sn_zero (n u j : Nat) : sn n u 0 j = false := rfl
theorem sn_succ (n u v j : Nat) : sn n u (v + 1) j = (sn n u v j || (ptB n u v && (fixN n u).any fun t => t * v % n == j)) := by
  unfold sn; rw [List.range_succ, List.any_append]; simp
theorem rwv_succ (n u v : Nat) : rwv n u (v + 1) = if ptB n u v = true then rwv n u v ++ [v] else rwv n u v := by
  unfold rwv
  rw [List.range_succ, List.filter_append]
  by_cases h : ptB n u v = true
  · rw [if_pos h, List.filter_cons_of_pos h]; rfl
  · rw [if_neg h, List.filter_cons_of_neg h]; simp
theorem sec_yes {n u v : Nat} (n1 : 1 ≤ n) (hu1 : u < n) (hu : u = 0 ∨ u ∣ n) (hv : v < n) (hs : sn n u v v = false) (hg : Nat.gcd (Nat.gcd u n) v = 1) :
    rwv n u (v + 1) = rwv n u v ++ [v] ∧ ∀ j, sn n u (v + 1) j = (sn n u v j || (fixN n u).any fun t => t * v % n == j) := by
  have h : ptB n u v = true := (emit n1 hu1 hu hv).2 ⟨hg, fun h => by rw [sn_iff.2 h] at hs; cases hs⟩
  exact ⟨by rw [rwv_succ, if_pos h], fun j => by rw [sn_succ, h, Bool.true_and]⟩
theorem sec_no {n u v : Nat} (n1 : 1 ≤ n) (hu1 : u < n) (hu : u = 0 ∨ u ∣ n) (hv : v < n) (h : sn n u v v = true ∨ ¬ Nat.gcd (Nat.gcd u n) v = 1) :
    rwv n u (v + 1) = rwv n u v ∧ ∀ j, sn n u (v + 1) j = sn n u v j := by
  have h : ¬ ptB n u v = true := fun hp => by
    have := (emit n1 hu1 hu hv).1 hp
    rcases h with h | h
    · exact this.2 (sn_iff.1 h)
    · exact h this.1
  have h2 : ptB n u v = false := by cases hb : ptB n u v <;> simp_all
  exact ⟨by rw [rwv_succ, if_neg h], fun j => by rw [sn_succ, h2, Bool.false_and, Bool.or_false]⟩
theorem rwv_len (n u v : Nat) : (rwv n u v).length ≤ v := by
  unfold rwv; exact Nat.le_trans (List.length_filter_le _ _) (by rw [List.length_range]; exact Nat.le_refl _)
theorem units_len (n : Nat) : (unitsN n).length ≤ n := by
  unfold unitsN; exact Nat.le_trans (List.length_filter_le _ _) (by rw [List.length_range]; exact Nat.le_refl _)
theorem fix_len (n u : Nat) : (fixN n u).length ≤ n := Nat.le_trans (List.length_filter_le _ _) (units_len n)
theorem row_len (n u : Nat) : (row n u).length ≤ n := rwv_len n u n
/-- The points of the rows before u. -/
def ptu (n u : Nat) : List (Nat × Nat) := (List.range u).flatMap fun u' => (row n u').map fun v => (u', v)
theorem ptu_pts (n : Nat) : ptu n n = pts n := rfl
theorem ptu_succ (n u : Nat) : ptu n (u + 1) = ptu n u ++ (row n u).map fun v => (u, v) := by
  unfold ptu; rw [List.range_succ, List.flatMap_append]; simp
theorem ptu_len (n : Nat) : ∀ u, (ptu n u).length ≤ n * u
  | 0 => by simp [ptu]
  | u + 1 => by
    rw [ptu_succ, List.length_append, List.length_map, Nat.mul_succ]
    have := ptu_len n u
    have := row_len n u
    omega
theorem filter_take_succ {α : Type} (p : α → Bool) (l : List α) (k : Nat) (h : k < l.length) : (l.take (k + 1)).filter p = if p l[k] = true then (l.take k).filter p ++ [l[k]] else (l.take k).filter p := by
  rw [List.take_add_one, List.getElem?_eq_getElem h, Option.toList_some, List.filter_append]
  by_cases hp : p l[k] = true
  · rw [if_pos hp, List.filter_cons_of_pos hp]; rfl
  · rw [if_neg hp, List.filter_cons_of_neg hp]; simp
theorem any_take_succ {α : Type} (p : α → Bool) (l : List α) (k : Nat) (h : k < l.length) : (l.take (k + 1)).any p = ((l.take k).any p || p l[k]) := by
  rw [List.take_add_one, List.getElem?_eq_getElem h, Option.toList_some, List.any_append]; simp
end Go.Proofs.Ytmikhkolbkdnpaa
namespace Go.Proofs.Ytmikhkolbkdnpaa
set_option linter.unusedVariables false

/-- The place of (u, v) in a list. -/
def ix : List (Nat × Nat) → Nat → Nat → Nat
  | [], _, _ => 0
  | x :: l, u, v => if x.1 = u ∧ x.2 = v then 0 else ix l u v + 1
theorem ix_get : ∀ {C : List (Nat × Nat)} {u v : Nat}, (u, v) ∈ C → ∃ h : ix C u v < C.length, C[ix C u v] = (u, v)
  | x :: l, u, v, h => by
    unfold ix
    by_cases e : x.1 = u ∧ x.2 = v
    · simp only [if_pos e]
      exact ⟨by simp, Prod.ext e.1 e.2⟩
    · simp only [if_neg e]
      have hm : (u, v) ∈ l := by
        rcases List.mem_cons.1 h with h | h
        · exact absurd (by rw [← h]; exact ⟨rfl, rfl⟩) e
        · exact h
      obtain ⟨h1, h2⟩ := ix_get hm
      exact ⟨by simp; exact h1, by simpa using h2⟩
theorem ix_first : ∀ {C : List (Nat × Nat)} {u v j : Nat} (hj : j < C.length), j < ix C u v → ¬ (C[j].1 = u ∧ C[j].2 = v)
  | [], _, _, j, hj, _ => absurd hj (by simp)
  | x :: l, u, v, 0, hj, h => by
    unfold ix at h
    intro e
    rw [if_pos (by simpa using e)] at h
    exact absurd h (by simp)
  | x :: l, u, v, j + 1, hj, h => by
    unfold ix at h
    by_cases e : x.1 = u ∧ x.2 = v
    · rw [if_pos e] at h; exact absurd h (by simp)
    · rw [if_neg e] at h
      have := ix_first (C := l) (u := u) (v := v) (j := j) (by simpa using hj) (by omega)
      simpa using this
theorem row_nodup (n u : Nat) : (row n u).Nodup := List.Pairwise.filter _ List.nodup_range
theorem ptu_lt {n u x y : Nat} (h : (x, y) ∈ ptu n u) : x < u := by
  unfold ptu at h
  rw [List.mem_flatMap] at h
  obtain ⟨u', h1, h2⟩ := h
  rw [List.mem_map] at h2
  obtain ⟨v', _, h4⟩ := h2
  cases h4
  exact List.mem_range.1 h1
theorem ptu_nodup (n : Nat) : ∀ u, (ptu n u).Nodup
  | 0 => List.nodup_nil
  | u + 1 => by
    rw [ptu_succ, List.nodup_append]
    refine ⟨ptu_nodup n u, ?_, ?_⟩
    · exact List.Pairwise.map _ (fun a b hab e => hab (by cases e; rfl)) (row_nodup n u)
    · rintro ⟨x, y⟩ h1 b h2 e
      rw [← e, List.mem_map] at h2
      obtain ⟨v', _, h4⟩ := h2
      cases h4
      exact absurd (ptu_lt h1) (Nat.lt_irrefl _)
theorem pts_nodup (n : Nat) : (pts n).Nodup := ptu_nodup n n
theorem ix_at {C : List (Nat × Nat)} (hn : C.Nodup) {i : Nat} (hi : i < C.length) : ix C C[i].1 C[i].2 = i := by
  obtain ⟨h1, h2⟩ := ix_get (C := C) (u := C[i].1) (v := C[i].2) (List.getElem_mem hi)
  rcases Nat.lt_trichotomy (ix C C[i].1 C[i].2) i with h | h | h
  · exact absurd h2 (List.pairwise_iff_getElem.1 hn _ _ h1 hi h)
  · exact h
  · exact absurd h2.symm (List.pairwise_iff_getElem.1 hn _ _ hi h1 h)
theorem ix_inj {C : List (Nat × Nat)} {u v u' v' : Nat} (h : (u, v) ∈ C) (h' : (u', v') ∈ C) (e : ix C u v = ix C u' v') : u = u' ∧ v = v' := by
  obtain ⟨h1, h2⟩ := ix_get h
  obtain ⟨h3, h4⟩ := ix_get h'
  have : C[ix C u v] = C[ix C u' v'] := by congr 1
  rw [h2, h4] at this
  cases this
  exact ⟨rfl, rfl⟩
end Go.Proofs.Ytmikhkolbkdnpaa
