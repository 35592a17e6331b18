/- What the loops of normal and of Least keep, and that their ends are normal forms. -/
import Derived.Test.YtfiooghodjiknaaNfM
namespace Go.Proofs.Ytfiooghodjiknaa
set_option linter.unusedVariables false

/-- The best unit of the progression a, a + m, .. below t. -/
def Best (n d m a t v f : Int) : Prop :=
  (v = n ∧ f = 0 ∧ ∀ s, 0 ≤ s → s < t → m ∣ s - a → ¬ Int.gcd s n = 1) ∨
  (v = f * d % n ∧ 0 ≤ f ∧ f < n ∧ Int.gcd f n = 1 ∧ m ∣ f - a ∧ ∀ s, 0 ≤ s → s < t → m ∣ s - a → Int.gcd s n = 1 → v ≤ s * d % n)
theorem emod_mul' (s c n : Int) : s % n * c % n = s * c % n := by
  rw [Int.mul_emod, Int.emod_emod_of_dvd _ (Int.dvd_refl n), ← Int.mul_emod]
theorem dvd_small {m x : Int} (h : m ∣ x) (h0 : 0 ≤ x) (h1 : x < m) : x = 0 := by
  have e := Int.emod_eq_of_lt h0 h1
  rw [Int.emod_eq_zero_of_dvd h] at e
  exact e.symm
theorem prog_last {m a s t : Int} (hs : m ∣ s - a) (ht : m ∣ t - a) (h0 : t ≤ s) (h1 : s < t + m) : s = t := by
  have h := Int.dvd_sub hs ht
  rw [show s - a - (t - a) = s - t by omega] at h
  have := dvd_small h (by omega) (by omega)
  omega
theorem Best.start {n d m a : Int} (a0 : 0 ≤ a) (a1 : a < m) : Best n d m a a n 0 := .inl ⟨rfl, rfl, fun s s0 s1 hd => by
  exfalso
  have h := Int.dvd_neg.2 hd
  rw [show -(s - a) = a - s by omega] at h
  have := dvd_small h (by omega) (by omega)
  omega⟩
theorem Best.take {n d m a t v f : Int} (h : Best n d m a t v f) (n1 : 1 ≤ n) (t0 : 0 ≤ t) (t1 : t < n) (ht : m ∣ t - a) (hv : t * d % n < v) (hg : Int.gcd t n = 1) : Best n d m a (t + m) (t * d % n) t := by
  refine .inr ⟨rfl, t0, t1, hg, ht, fun s s0 s1 hd hs => ?_⟩
  by_cases hst : t ≤ s
  · rw [prog_last hd ht hst s1]; omega
  · rcases h with ⟨_, _, h⟩ | ⟨_, _, _, _, _, h⟩
    · exact absurd hs (h s s0 (by omega) hd)
    · have := h s s0 (by omega) hd hs; omega
theorem Best.skip {n d m a t v f : Int} (h : Best n d m a t v f) (n1 : 1 ≤ n) (ht : m ∣ t - a) (hv : v ≤ t * d % n ∨ ¬ Int.gcd t n = 1) : Best n d m a (t + m) v f := by
  rcases h with ⟨h1, h2, h⟩ | ⟨h1, h2, h3, h4, h5, h⟩
  · refine .inl ⟨h1, h2, fun s s0 s1 hd hs => ?_⟩
    by_cases hst : t ≤ s
    · obtain rfl := prog_last hd ht hst s1
      rcases hv with hv | hv
      · have := Int.emod_lt_of_pos (s * d) (show 0 < n by omega); omega
      · exact hv hs
    · exact h s s0 (by omega) hd hs
  · refine .inr ⟨h1, h2, h3, h4, h5, fun s s0 s1 hd hs => ?_⟩
    by_cases hst : t ≤ s
    · obtain rfl := prog_last hd ht hst s1
      rcases hv with hv | hv
      · exact hv
      · exact absurd hs hv
    · exact h s s0 (by omega) hd hs
theorem Best.v_le {n d m a t v f : Int} (h : Best n d m a t v f) (n1 : 1 ≤ n) : 0 ≤ v ∧ v ≤ n ∧ 0 ≤ f ∧ f ≤ n := by
  rcases h with ⟨h1, h2, _⟩ | ⟨h1, h2, h3, _⟩
  · omega
  · have := Int.emod_lt_of_pos (f * d) (show 0 < n by omega)
    have := Int.emod_nonneg (f * d) (show n ≠ 0 by omega)
    omega
theorem lift_int {n m a : Int} (n1 : 1 ≤ n) (n2 : n ≤ 120) (m1 : 1 ≤ m) (hm : m ∣ n) (a0 : 0 ≤ a) (a1 : a < m) (hg : Int.gcd a m = 1) : ∃ s, 0 ≤ s ∧ s < n ∧ m ∣ s - a ∧ Int.gcd s n = 1 := by
  have hd : m.natAbs ∣ n.natAbs := Int.natAbs_dvd_natAbs.2 hm
  obtain ⟨k, hk, e⟩ := lift_nat (n := n.natAbs) (m := m.natAbs) (a := a.natAbs) (by omega) (by omega) hd (by omega) (by omega) hg
  have hx : (k + 1) * m.natAbs ≤ n.natAbs := by
    have := Nat.mul_le_mul_right m.natAbs (show k + 1 ≤ n.natAbs / m.natAbs by omega)
    rwa [Nat.div_mul_cancel hd] at this
  rw [Nat.add_mul] at hx
  refine ⟨((a.natAbs + k * m.natAbs : Nat) : Int), by omega, by omega, ⟨(k : Int), ?_⟩, ?_⟩
  · rw [Int.natCast_add, Int.natCast_mul, show ((m.natAbs : Nat) : Int) = m by omega, show ((a.natAbs : Nat) : Int) = a by omega, Int.mul_comm m]
    omega
  · show Nat.gcd _ _ = 1
    rw [Int.natAbs_natCast]; exact e
theorem Best.done {n d m a t v f : Int} (h : Best n d m a t v f) (n1 : 1 ≤ n) (n2 : n ≤ 120) (m1 : 1 ≤ m) (hm : m ∣ n) (a0 : 0 ≤ a) (a1 : a < m) (hg : Int.gcd a m = 1) (ht : n ≤ t) :
    v = f * d % n ∧ 0 ≤ f ∧ f < n ∧ Int.gcd f n = 1 ∧ m ∣ f - a ∧ ∀ s, 0 ≤ s → s < n → m ∣ s - a → Int.gcd s n = 1 → v ≤ s * d % n := by
  rcases h with ⟨_, _, h⟩ | ⟨h1, h2, h3, h4, h5, h⟩
  · obtain ⟨s, s0, s1, hs, hg⟩ := lift_int n1 n2 m1 hm a0 a1 hg
    exact absurd hg (h s s0 (by omega) hs)
  · exact ⟨h1, h2, h3, h4, h5, fun s s0 s1 => h s s0 (by omega)⟩
theorem nf_code {n c d g m a v f T : Int} (n1 : 1 ≤ n) (n2 : n ≤ 120) (c0 : 0 ≤ c) (c1 : c < n) (hg : g = Int.gcd c n) (hm : n = g * m) (a0 : 0 ≤ a) (a1 : a < m) (ha : m ∣ c / g * a - 1)
    {t : Int} (hb : Best n d m a t v f) (ht : n ≤ t) (T0 : 1 ≤ T) (T1 : T ≤ n) (hT : n ∣ f * T - 1) : NF n c d (g % n) v T := by
  have g0 : 0 ≤ g := by omega
  have g1 : 1 ≤ g := by
    rcases Int.lt_or_le g 1 with h | h
    · have : g = 0 := by omega
      rw [this, Int.zero_mul] at hm; omega
    · exact h
  have m1 : 1 ≤ m := by omega
  have hgc : g ∣ c := by rw [hg]; exact Int.gcd_dvd_left _ _
  obtain ⟨c', hc'⟩ := hgc
  have hcg : c / g = c' := by rw [hc']; exact Int.mul_ediv_cancel_left _ (by omega)
  rw [hcg] at ha
  have hga : Int.gcd a m = 1 := unit_of' ha
  obtain ⟨h1, f0, f1, hf, hfa, hle⟩ := hb.done n1 n2 m1 ⟨g, by rw [hm, Int.mul_comm]⟩ a0 a1 hga ht
  have gn : g ≤ n := by
    have := Int.mul_le_mul_of_nonneg_left m1 g0; omega
  have key : n ∣ f * c - g := by
    obtain ⟨x, hx⟩ := hfa
    obtain ⟨y, hy⟩ := ha
    refine ⟨y + c' * x, ?_⟩
    rw [hm, hc', show f = a + m * x by omega]
    have : c' * a = m * y + 1 := by omega
    clear hx hy hm hc' hb hle hf h1 hT hcg hga
    grind
  have hU := dvd_mod g n
  refine ⟨Int.emod_nonneg _ (by omega), Int.emod_lt_of_pos _ (by omega), ?_, ?_, T0, T1, unit_of' hT, ?_, ?_, ?_⟩
  · rw [h1]; exact Int.emod_nonneg _ (by omega)
  · rw [h1]; exact Int.emod_lt_of_pos _ (by omega)
  · obtain ⟨x, hx⟩ := hU
    obtain ⟨y, hy⟩ := key
    obtain ⟨z, hz⟩ := hT
    refine ⟨c * z - T * y - T * x, ?_⟩
    rw [show g % n = g - n * x by omega, show g = f * c - n * y by omega]
    have : f * T = n * z + 1 := by omega
    clear hx hy hz hm hc' hb hle hf h1 hcg hga hg
    grind
  · obtain ⟨z, hz⟩ := hT
    obtain ⟨x, hx⟩ := dvd_mod (f * d) n
    refine ⟨d * z - T * x, ?_⟩
    rw [h1, show f * d % n = f * d - n * x by omega]
    have : f * T = n * z + 1 := by omega
    clear hx hz hm hc' hb hle hf h1 hcg hga hg key hU
    grind
  · intro s hs
    have r0 := Int.emod_nonneg (s * c) (show n ≠ 0 by omega)
    have r1 := Int.emod_lt_of_pos (s * c) (show 0 < n by omega)
    obtain ⟨w, hw⟩ := dvd_mod (s * c) n
    have hgr : g ∣ s * c % n := by
      refine ⟨s * c' - m * w, ?_⟩
      rw [show s * c % n = s * c - n * w by omega, hc', hm]
      clear hm hc' hb hle hf h1 hcg hga hg key hU hw
      grind
    by_cases hz : s * c % n = 0
    · have hnc : n ∣ c := by
        obtain ⟨q, x, hx⟩ := unit_inv hs
        refine ⟨q * w - c * x, ?_⟩
        have e1 : s * c = n * w := by omega
        have e2 : s * q = n * x + 1 := by omega
        have e3 : q * (s * c) = c * (s * q) := by clear e1 e2 hz hw; grind
        rw [e1, e2] at e3
        clear hx hm hc' hb hle hf h1 hcg hga hg key hU
        grind
      have hc0 := dvd_small hnc c0 c1
      have hgn : g = n := by rw [hg, hc0, Int.gcd_zero_left]; omega
      rw [hgn, Int.emod_self, hz]
      refine .inr ⟨rfl, ?_⟩
      have hm1 : m = 1 := by
        rw [hgn] at hm
        have e : n * (m - 1) = 0 := by rw [Int.mul_sub, ← hm]; omega
        rcases Int.mul_eq_zero.1 e with h | h <;> omega
      have := hle (s % n) (Int.emod_nonneg _ (by omega)) (Int.emod_lt_of_pos _ (by omega)) (by rw [hm1]; exact Int.one_dvd _) (unit_mod hs)
      rwa [emod_mul'] at this
    · have hgle : g ≤ s * c % n := Int.le_of_dvd (by omega) hgr
      have hgm : g % n = g := Int.emod_eq_of_lt g0 (by omega)
      rw [hgm]
      by_cases he : g = s * c % n
      · refine .inr ⟨he, ?_⟩
        have hsa : m ∣ s - a := by
          obtain ⟨y, hy⟩ := ha
          have e1 : s * c - g = n * w := by omega
          have e2 : g * (s * c' - 1 - m * w) = 0 := by
            rw [hc', hm] at e1
            clear hy hz hm hc' hb hle hf h1 hcg hga hg key hU hw hT
            grind
          have e3 : s * c' - 1 - m * w = 0 := by
            rcases Int.mul_eq_zero.1 e2 with h | h
            · omega
            · exact h
          refine ⟨a * w - s * y, ?_⟩
          have e4 : c' * a = m * y + 1 := by omega
          have e5 : s * c' = m * w + 1 := by omega
          have e6 : a * (s * c') = s * (c' * a) := by clear e1 e2 e3 e4 e5; grind
          rw [e4, e5] at e6
          clear hy hz hm hc' hb hle hf h1 hcg hga hg key hU hw hT e1 e2 e3 e4 e5
          grind
        have hsm : m ∣ s % n - a := by
          obtain ⟨x, hx⟩ := dvd_mod s n
          obtain ⟨y, hy⟩ := hsa
          refine ⟨y - g * x, ?_⟩
          rw [show s % n = s - n * x by omega, hm, show s = a + m * y by omega]
          clear hy hz hm hc' hb hle hf h1 hcg hga hg key hU hw hT hx
          grind
        have := hle (s % n) (Int.emod_nonneg _ (by omega)) (Int.emod_lt_of_pos _ (by omega)) hsm (unit_mod hs)
        rwa [emod_mul'] at this
      · exact .inl (by omega)
/-- The state of the reference's search before s is looked at. -/
def LSt (n c d s U V S : Int) : Prop :=
  (s = 1 ∧ U = n ∧ V = n ∧ S = 0) ∨
  (1 ≤ S ∧ S < s ∧ Int.gcd S n = 1 ∧ U = S * c % n ∧ V = S * d % n ∧ ∀ r, 1 ≤ r → r < s → Int.gcd r n = 1 → U < r * c % n ∨ (U = r * c % n ∧ V ≤ r * d % n))
theorem LSt.bd {n c d s U V S : Int} (h : LSt n c d s U V S) (n1 : 1 ≤ n) : 0 ≤ U ∧ U ≤ n ∧ 0 ≤ V ∧ V ≤ n ∧ 0 ≤ S ∧ S ≤ s := by
  rcases h with h | ⟨h1, h2, _, h4, h5, _⟩
  · omega
  · have := Int.emod_lt_of_pos (S * c) (show 0 < n by omega)
    have := Int.emod_nonneg (S * c) (show n ≠ 0 by omega)
    have := Int.emod_lt_of_pos (S * d) (show 0 < n by omega)
    have := Int.emod_nonneg (S * d) (show n ≠ 0 by omega)
    omega
theorem LSt.skip {n c d s U V S : Int} (h : LSt n c d s U V S) (s1 : 1 ≤ s) (hg : ¬ Int.gcd s n = 1) : LSt n c d (s + 1) U V S := by
  rcases h with ⟨h1, _⟩ | ⟨h1, h2, h3, h4, h5, h⟩
  · subst h1; exact absurd (Int.gcd_one_left n) hg
  · refine .inr ⟨h1, by omega, h3, h4, h5, fun r r1 r2 hr => ?_⟩
    by_cases e : r = s
    · subst e; exact absurd hr hg
    · exact h r r1 (by omega) hr
theorem LSt.take {n c d s U V S : Int} (h : LSt n c d s U V S) (n1 : 1 ≤ n) (s1 : 1 ≤ s) (hg : Int.gcd s n = 1) (hl : s * c % n < U ∨ (s * c % n = U ∧ s * d % n < V)) : LSt n c d (s + 1) (s * c % n) (s * d % n) s := by
  refine .inr ⟨s1, by omega, hg, rfl, rfl, fun r r1 r2 hr => ?_⟩
  by_cases e : r = s
  · subst e; exact .inr ⟨rfl, by omega⟩
  · rcases h with ⟨h1, _⟩ | ⟨_, _, _, _, _, h⟩
    · omega
    · have := h r r1 (by omega) hr
      omega
theorem LSt.keep {n c d s U V S : Int} (h : LSt n c d s U V S) (n1 : 1 ≤ n) (s1 : 1 ≤ s) (hl : ¬ s * c % n < U) (hl2 : ¬ (s * c % n = U ∧ s * d % n < V)) : LSt n c d (s + 1) U V S := by
  rcases h with ⟨h1, h2, _⟩ | ⟨h1, h2, h3, h4, h5, h⟩
  · have := Int.emod_lt_of_pos (s * c) (show 0 < n by omega); omega
  · refine .inr ⟨h1, by omega, h3, h4, h5, fun r r1 r2 hr => ?_⟩
    by_cases e : r = s
    · subst e; omega
    · exact h r r1 (by omega) hr
theorem LSt.nf {n c d s U V S T : Int} (h : LSt n c d s U V S) (n1 : 1 ≤ n) (hs : n < s) (T1 : 1 ≤ T) (T2 : T ≤ n) (hT : n ∣ T * S - 1) : NF n c d U V T := by
  rcases h with ⟨h1, _⟩ | ⟨h1, h2, h3, h4, h5, h⟩
  · omega
  · refine ⟨?_, ?_, ?_, ?_, T1, T2, unit_of hT, ?_, ?_, ?_⟩
    · rw [h4]; exact Int.emod_nonneg _ (by omega)
    · rw [h4]; exact Int.emod_lt_of_pos _ (by omega)
    · rw [h5]; exact Int.emod_nonneg _ (by omega)
    · rw [h5]; exact Int.emod_lt_of_pos _ (by omega)
    · obtain ⟨x, hx⟩ := dvd_mod (S * c) n
      obtain ⟨y, hy⟩ := hT
      refine ⟨y * c - T * x, ?_⟩
      rw [h4, show S * c % n = S * c - n * x by omega]
      have : T * S = n * y + 1 := by omega
      clear hx hy h h3 h4 h5
      grind
    · obtain ⟨x, hx⟩ := dvd_mod (S * d) n
      obtain ⟨y, hy⟩ := hT
      refine ⟨y * d - T * x, ?_⟩
      rw [h5, show S * d % n = S * d - n * x by omega]
      have : T * S = n * y + 1 := by omega
      clear hx hy h h3 h4 h5
      grind
    · intro r hr
      by_cases e : r % n = 0
      · have hn : n = 1 := by
          have := unit_mod hr
          rw [e, Int.gcd_zero_left] at this
          omega
        subst hn
        rw [Int.emod_one, Int.emod_one]
        rw [Int.emod_one] at h4 h5
        omega
      · have := h (r % n) (by have := Int.emod_nonneg r (show n ≠ 0 by omega); omega) (by have := Int.emod_lt_of_pos r (show 0 < n by omega); omega) (unit_mod hr)
        rwa [emod_mul', emod_mul'] at this
theorem LSt.unit {n c d s U V S : Int} (h : LSt n c d s U V S) (n1 : 1 ≤ n) (hs : n < s) : Int.gcd S n = 1 ∧ 1 ≤ S := by
  rcases h with ⟨h1, _⟩ | ⟨h1, h2, h3, _⟩
  · omega
  · exact ⟨h3, h1⟩
theorem inv_some {n S : Int} (n1 : 1 ≤ n) (h : Int.gcd S n = 1) : ∃ T, 1 ≤ T ∧ T ≤ n ∧ n ∣ T * S - 1 := by
  obtain ⟨r, x, hx⟩ := unit_inv h
  obtain ⟨y, hy⟩ := dvd_mod r n
  by_cases e : r % n = 0
  · have h1 : n ∣ 1 := by
      refine ⟨S * y - x, ?_⟩
      have e1 : r = n * y := by omega
      rw [e1] at hx
      clear e hy e1
      grind
    have : n = 1 := by have := Int.le_of_dvd (by decide) h1; omega
    subst this
    exact ⟨1, by omega, by omega, Int.one_dvd _⟩
  · refine ⟨r % n, by have := Int.emod_nonneg r (show n ≠ 0 by omega); omega, by have := Int.emod_lt_of_pos r (show 0 < n by omega); omega, x - y * S, ?_⟩
    rw [show r % n = r - n * y by omega]
    clear hy e
    grind
end Go.Proofs.Ytfiooghodjiknaa
