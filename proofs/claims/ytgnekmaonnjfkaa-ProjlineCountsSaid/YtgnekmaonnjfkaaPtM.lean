/- Plain mathematics of the list of the projective line: which pairs are normal forms. -/
import Derived.Test.YtgnekmaonnjfkaaNfN
namespace Go.Proofs.Ytgnekmaonnjfkaa
set_option linter.unusedVariables false

theorem lst_some {n c d : Int} (n1 : 1 ≤ n) (k : Nat) : ∃ U V S, LSt n c d (k + 1) U V S := by
  induction k with
  | zero => exact ⟨n, n, 0, .inl ⟨by omega, rfl, rfl, rfl⟩⟩
  | succ k ih =>
    obtain ⟨U, V, S, h⟩ := ih
    have e : ((k + 1 : Nat) : Int) + 1 = ((k : Int) + 1) + 1 := by omega
    rw [e]
    by_cases hg : Int.gcd ((k : Int) + 1) n = 1
    · by_cases h1 : ((k : Int) + 1) * c % n < U ∨ (((k : Int) + 1) * c % n = U ∧ ((k : Int) + 1) * d % n < V)
      · exact ⟨_, _, _, h.take n1 (by omega) hg h1⟩
      · exact ⟨_, _, _, h.keep n1 (by omega) (fun h2 => h1 (.inl h2)) (fun h2 => h1 (.inr h2))⟩
    · exact ⟨_, _, _, h.skip (by omega) hg⟩
theorem nf_some {n : Int} (n1 : 1 ≤ n) (c d : Int) : ∃ U V T, NF n c d U V T := by
  obtain ⟨U, V, S, h⟩ := lst_some (c := c) (d := d) n1 n.toNat
  obtain ⟨h1, _⟩ := h.unit n1 (by omega)
  obtain ⟨T, t1, t2, hT⟩ := inv_some n1 h1
  exact ⟨U, V, T, h.nf n1 (by omega) t1 t2 hT⟩
/-- (u : v) is a normal form. -/
structure Pt (n u v : Int) : Prop where
  cop : Cop3 n u v
  nf : NF n u v u v 1
/-- A normal form's class has it as its own normal form. -/
theorem NF.self {n c d U V T : Int} (n1 : 1 ≤ n) (h : NF n c d U V T) : NF n U V U V 1 := by
  refine ⟨h.u0, h.u1, h.v0, h.v1, by omega, n1, Int.gcd_one_left n, ⟨0, by omega⟩, ⟨0, by omega⟩, fun s hs => ?_⟩
  obtain ⟨R, hR, r1, r2⟩ := h.inv
  have := h.least (s * R) (unit_mul hs hR)
  have e1 : s * R * c % n = s * U % n := by
    refine Int.emod_eq_emod_iff_emod_sub_eq_zero.2 (Int.emod_eq_zero_of_dvd ?_)
    obtain ⟨a, ha⟩ := r1
    exact ⟨s * a, by clear this r2 hs hR; grind⟩
  have e2 : s * R * d % n = s * V % n := by
    refine Int.emod_eq_emod_iff_emod_sub_eq_zero.2 (Int.emod_eq_zero_of_dvd ?_)
    obtain ⟨a, ha⟩ := r2
    exact ⟨s * a, by clear this r1 hs hR; grind⟩
  rwa [e1, e2] at this
theorem Cop3.move {n c d s c' d' : Int} (h : Cop3 n c' d') (h1 : n ∣ s * c - c') (h2 : n ∣ s * d - d') : Cop3 n c d := by
  obtain ⟨x, y, z, e⟩ := h
  obtain ⟨a, ha⟩ := h1
  obtain ⟨b, hb⟩ := h2
  refine ⟨x * s, y * s, z - x * a - y * b, ?_⟩
  have e1 : c' = s * c - n * a := by omega
  have e2 : d' = s * d - n * b := by omega
  rw [e1, e2] at e
  clear ha hb e1 e2
  grind
theorem NF.cop3 {n c d U V T : Int} (h : NF n c d U V T) (hc : Cop3 n c d) : Cop3 n U V := hc.move h.eu h.ev
theorem pt_of {n c d U V T : Int} (n1 : 1 ≤ n) (h : NF n c d U V T) (hc : Cop3 n c d) : Pt n U V := ⟨h.cop3 hc, h.self n1⟩
/-- The least first coordinate. -/
theorem least_u {n u v U V T : Int} (n1 : 1 ≤ n) (hu0 : 0 ≤ u) (hu1 : u < n) (hu : u = 0 ∨ u ∣ n) (h : NF n u v U V T) : U = u := by
  have h1 := h.least 1 (Int.gcd_one_left n)
  rw [Int.one_mul, Int.one_mul, Int.emod_eq_of_lt hu0 hu1] at h1
  obtain ⟨k, hk⟩ := h.eu
  rcases hu with e | hd
  · have := h.u0; omega
  · by_cases hU : U = 0
    · have hnu : n ∣ u := ⟨-k, by rw [hU] at hk; rw [Int.mul_neg]; omega⟩
      have := dvd_small hnu hu0 hu1
      omega
    · obtain ⟨R, hR, ⟨a, ha⟩, _⟩ := h.inv
      have hdU : u ∣ U := by
        obtain ⟨m, hm⟩ := hd
        refine ⟨R - m * a, ?_⟩
        rw [show U = R * u - n * a by omega, hm]
        clear ha hm hk h1 hU
        grind
      have := h.u0
      have := Int.le_of_dvd (by omega) hdU
      omega
/-- A pair is a normal form exactly if no smaller one of its row goes to it. -/
theorem pt_iff {n u v : Int} (n1 : 1 ≤ n) (hu0 : 0 ≤ u) (hu1 : u < n) (hu : u = 0 ∨ u ∣ n) (hv0 : 0 ≤ v) (hv1 : v < n) (hc : Cop3 n u v) :
    Pt n u v ↔ ¬ ∃ v', 0 ≤ v' ∧ v' < v ∧ Pt n u v' ∧ ∃ t, Int.gcd t n = 1 ∧ t * u % n = u ∧ t * v' % n = v := by
  constructor
  · rintro h ⟨v', v0, v1, hp, t, ht, e1, e2⟩
    obtain ⟨r, hr⟩ := unit_inv ht
    have h1 := h.nf.least r (unit_of' hr)
    have k1 : n ∣ t * u - u := by have := dvd_mod (t * u) n; rwa [e1] at this
    have k2 : n ∣ t * v' - v := by have := dvd_mod (t * v') n; rwa [e2] at this
    obtain ⟨a, ha⟩ := hr
    have f1 : r * u % n = u := by
      refine mod_of ?_ hu0 hu1
      obtain ⟨b, hb⟩ := k1
      exact ⟨u * a - r * b, by clear k2 h1 e1 e2; grind⟩
    have f2 : r * v % n = v' := by
      refine mod_of ?_ v0 (by omega)
      obtain ⟨b, hb⟩ := k2
      exact ⟨v' * a - r * b, by clear k1 h1 e1 e2; grind⟩
    rw [f1, f2] at h1
    omega
  · intro h
    obtain ⟨U, V, T, hN⟩ := nf_some n1 u v
    have hU := least_u n1 hu0 hu1 hu hN
    subst hU
    have h1 := hN.least 1 (Int.gcd_one_left n)
    rw [Int.one_mul, Int.one_mul, Int.emod_eq_of_lt hu0 hu1, Int.emod_eq_of_lt hv0 hv1] at h1
    by_cases hV : V < v
    · exact absurd ⟨V, hN.v0, hV, pt_of n1 hN hc, T, hN.cop, mod_of hN.eu hu0 hu1, mod_of hN.ev hv0 hv1⟩ h
    · have : V = v := by omega
      subst this
      exact ⟨hc, hN.self n1⟩
/-- A first coordinate that does not divide n gives no normal form. -/
theorem pt_no {n u v : Int} (n1 : 1 ≤ n) (n2 : n ≤ 120) (hu0 : 0 ≤ u) (hu1 : u < n) (hu : ¬ (u = 0 ∨ u ∣ n)) : ¬ Pt n u v := by
  intro h
  have hg0 : (Int.gcd u n : Int) ∣ u := Int.gcd_dvd_left _ _
  have hgn : (Int.gcd u n : Int) ∣ n := Int.gcd_dvd_right _ _
  have hgp : 1 ≤ (Int.gcd u n : Int) := by have := Int.gcd_pos_of_ne_zero_right (a := u) (b := n) (by omega); omega
  obtain ⟨c, hc⟩ := hg0
  obtain ⟨m, hm⟩ := hgn
  have hm1 : 1 ≤ m := by
    rcases Int.lt_or_le m 1 with h | h
    · have := Int.mul_le_mul_of_nonneg_left (show m ≤ 0 by omega) (show 0 ≤ (Int.gcd u n : Int) by omega); omega
    · exact h
  obtain ⟨x, y, e⟩ := bez u n
  -- a unit that takes u to its common divisor with n
  have hco : Int.gcd (x % m) m = 1 := by
    refine unit_mod (unit_of (r := c) ⟨-y, ?_⟩)
    have k : (Int.gcd u n : Int) * (c * x + m * y - 1) = 0 := by
      have e2 : (Int.gcd u n : Int) * c * x + (Int.gcd u n : Int) * m * y = Int.gcd u n := by rw [← hc, ← hm]; exact e.symm
      generalize (Int.gcd u n : Int) = g at *
      clear hc hm e
      grind
    rcases Int.mul_eq_zero.1 k with k | k
    · omega
    · rw [Int.mul_comm x c, Int.mul_neg]; omega
  obtain ⟨s, s0, s1, hs, hsg⟩ := lift_int n1 n2 hm1 ⟨_, by rw [Int.mul_comm]; exact hm⟩ (Int.emod_nonneg x (by omega)) (Int.emod_lt_of_pos x (by omega)) hco
  have hsx : m ∣ s - x := by
    have := Int.dvd_sub hs (dvd_mod x m)
    rwa [show s - x % m - (x - x % m) = s - x by omega] at this
  have hlt : (Int.gcd u n : Int) < n := by
    have := Int.le_of_dvd (by omega) (show (Int.gcd u n : Int) ∣ n from ⟨m, hm⟩)
    rcases Int.lt_or_le (Int.gcd u n : Int) n with h | h
    · exact h
    · exfalso
      have e2 : (Int.gcd u n : Int) = n := by omega
      have : n ∣ u := ⟨c, by rw [← e2]; exact hc⟩
      exact hu (.inl (dvd_small this hu0 hu1))
  have hmod : s * u % n = Int.gcd u n := by
    refine mod_of ?_ (by omega) hlt
    obtain ⟨a, ha⟩ := hsx
    refine ⟨c * a - y, ?_⟩
    have e3 : s = x + m * a := by omega
    have e4 : (Int.gcd u n : Int) = u * x + n * y := e
    rw [e3, e4]
    have e5 : m * a * u = n * (c * a) := by
      have : m * a * ((Int.gcd u n : Int) * c) = (Int.gcd u n : Int) * m * (c * a) := by
        generalize (Int.gcd u n : Int) = g
        clear hc hm e ha e3 e4
        grind
      rw [← hc, ← hm] at this
      exact this
    rw [Int.add_mul, e5, Int.mul_sub]
    have : x * u = u * x := Int.mul_comm _ _
    omega
  have h1 := h.nf.least s hsg
  rw [hmod] at h1
  have hne : ¬ (Int.gcd u n : Int) = u := fun e => hu (.inr (by rw [← e]; exact ⟨m, hm⟩))
  have hle : (Int.gcd u n : Int) ≤ u := by
    by_cases h0 : u = 0
    · exact absurd (.inl h0) hu
    · exact Int.le_of_dvd (by omega) ⟨c, hc⟩
  omega
/-- The same, reckoned. -/
def ptB (n u v : Nat) : Bool := Nat.gcd (Nat.gcd u v) n == 1 && (List.range n).all fun s => Nat.gcd s n != 1 || (decide (u < s * u % n) || (s * u % n == u && decide (v ≤ s * v % n)))
theorem ptB_all {n u v : Nat} : ptB n u v = true ↔ Nat.gcd (Nat.gcd u v) n = 1 ∧ ∀ s, s < n → Nat.gcd s n = 1 → (u < s * u % n ∨ (s * u % n = u ∧ v ≤ s * v % n)) := by
  unfold ptB
  rw [Bool.and_eq_true, List.all_eq_true]
  simp only [beq_iff_eq, List.mem_range, Bool.or_eq_true, bne_iff_ne, ne_eq, decide_eq_true_eq, Bool.and_eq_true]
  constructor
  · rintro ⟨h1, h2⟩
    refine ⟨h1, fun s hs hg => ?_⟩
    rcases h2 s hs with h | h
    · exact absurd hg h
    · exact h
  · rintro ⟨h1, h2⟩
    refine ⟨h1, fun s hs => ?_⟩
    by_cases hg : Nat.gcd s n = 1
    · exact .inr (h2 s hs hg)
    · exact .inl hg
theorem cast_mm (s u n : Nat) : (s : Int) * (u : Int) % (n : Int) = ((s * u % n : Nat) : Int) := by rw [← Int.natCast_mul]; exact (Int.natCast_emod _ _).symm
theorem ptB_iff {n u v : Nat} (hu : u < n) (hv : v < n) : ptB n u v = true ↔ Pt n u v := by
  rw [ptB_all]
  constructor
  · rintro ⟨h1, h2⟩
    refine ⟨cop3_of h1, ⟨by omega, by omega, by omega, by omega, by omega, by omega, Int.gcd_one_left _, ⟨0, by omega⟩, ⟨0, by omega⟩, fun s hs => ?_⟩⟩
    have s0 := Int.emod_nonneg s (show (n : Int) ≠ 0 by omega)
    have s1 := Int.emod_lt_of_pos s (show 0 < (n : Int) by omega)
    have e : s % (n : Int) = ((s % (n : Int)).toNat : Int) := by omega
    have hg : Nat.gcd (s % (n : Int)).toNat n = 1 := by
      have := unit_mod hs
      rw [e] at this
      exact this
    have := h2 (s % (n : Int)).toNat (by omega) hg
    rw [← emod_mul' s u, ← emod_mul' s v, e, cast_mm, cast_mm]
    omega
  · intro h
    refine ⟨cop3_gcd h.cop, fun s hs hg => ?_⟩
    have := h.nf.least s hg
    rw [cast_mm, cast_mm] at this
    omega
def row (n u : Nat) : List Nat := (List.range n).filter (ptB n u)
def pts (n : Nat) : List (Nat × Nat) := (List.range n).flatMap fun u => (row n u).map fun v => (u, v)
theorem row_no {n u : Nat} (n1 : 1 ≤ n) (n2 : n ≤ 120) (hu1 : u < n) (hu : ¬ (u = 0 ∨ u ∣ n)) : row n u = [] := by
  unfold row
  rw [List.filter_eq_nil_iff]
  intro v hv hp
  refine pt_no (n := n) (u := u) (v := v) (by omega) (by omega) (by omega) (by omega) (fun h => hu ?_) ((ptB_iff hu1 (List.mem_range.1 hv)).1 hp)
  rcases h with h | h
  · exact .inl (by omega)
  · exact .inr (Int.ofNat_dvd.1 h)
theorem emit {n u v : Nat} (n1 : 1 ≤ n) (hu1 : u < n) (hu : u = 0 ∨ u ∣ n) (hv : v < n) :
    ptB n u v = true ↔ Nat.gcd (Nat.gcd u n) v = 1 ∧ ¬ ∃ v', v' < v ∧ ptB n u v' = true ∧ ∃ t, t < n ∧ Nat.gcd t n = 1 ∧ t * u % n = u ∧ t * v' % n = v := by
  have hgc : Nat.gcd (Nat.gcd u n) v = Nat.gcd (Nat.gcd u v) n := by rw [Nat.gcd_assoc, Nat.gcd_comm n v, ← Nat.gcd_assoc]
  rw [hgc]
  by_cases hc : Nat.gcd (Nat.gcd u v) n = 1
  case neg => exact ⟨fun h => absurd (ptB_all.1 h).1 hc, fun h => absurd h.1 hc⟩
  have hu' : (u : Int) = 0 ∨ (u : Int) ∣ n := by
    rcases hu with h | h
    · exact .inl (by omega)
    · exact .inr (Int.ofNat_dvd.2 h)
  rw [ptB_iff hu1 hv, pt_iff (by omega) (by omega) (by omega) hu' (by omega) (by omega) (cop3_of (n := (n : Int)) (c := (u : Int)) (d := (v : Int)) hc)]
  refine ⟨fun h => ⟨hc, ?_⟩, fun h => ?_⟩
  · rintro ⟨v', h1, h2, t, h3, h4, h5, h6⟩
    exact h ⟨v', by omega, by omega, (ptB_iff hu1 (by omega)).1 h2, t, h4, by rw [cast_mm, h5], by rw [cast_mm, h6]⟩
  · rintro ⟨v', h1, h2, h3, t, h4, h5, h6⟩
    have t0 := Int.emod_nonneg t (show (n : Int) ≠ 0 by omega)
    have t1 := Int.emod_lt_of_pos t (show 0 < (n : Int) by omega)
    have e : t % (n : Int) = ((t % (n : Int)).toNat : Int) := by omega
    have ev : v' = ((v'.toNat : Nat) : Int) := by omega
    refine h.2 ⟨v'.toNat, by omega, (ptB_iff hu1 (by omega)).2 (by rw [← ev]; exact h3), (t % (n : Int)).toNat, by omega, ?_, ?_, ?_⟩
    · have := unit_mod h4
      rw [e] at this
      exact this
    · rw [← emod_mul', e, cast_mm] at h5; omega
    · rw [← emod_mul', e, ev, cast_mm] at h6; omega
end Go.Proofs.Ytgnekmaonnjfkaa
