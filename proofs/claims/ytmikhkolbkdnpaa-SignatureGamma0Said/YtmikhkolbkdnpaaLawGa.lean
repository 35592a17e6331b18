/- Plain mathematics: the signature of the coset action of Gamma0(n), by sums over the projective line. The sums over the projective line, decided for all levels. The contracts of the reference's formula of Gamma0(n): Divisors, Phi, Count0, Psi, symbol, product. The contracts of the reference's Count0, Psi, symbol, product and Formula0. The contract of the reference's Psi. The contract of the reference's symbol. The contract of the reference's product. The contracts of the reference's Formula0 and the project's Genus0. The signature of Gamma0(n)'s action, as the program gives it, is the formula's. SignatureGamma0. SignatureGamma0, whole. -/
import Derived.Test.YtmikhkolbkdnpaaSgF
import Derived.Test.YtmikhkolbkdnpaaSigM
import Derived.Test.YtmikhkolbkdnpaaSgnA
import Derived.Test.YtmikhkolbkdnpaaOfR
import Derived.Test.YtmikhkolbkdnpaaLawR
import Derived.Deep.DeepCutAuto
import Derived.Deep.CutBlock
import Derived.Deep.RegionHeld3
import Derived.IntWalk
import Derived.Deep.AppendLies
namespace Go.Proofs.Ytmikhkolbkdnpaa
set_option linter.unusedVariables false

theorem kc1_iffP {n : Int} (n1 : 1 ≤ n) {x y : M4} (hx : dtM x = 1) (hy : dtM y = 1) : kc1 n x = kc1 n y ↔ n ∣ x.2.2.1 * y.2.2.2 - y.2.2.1 * x.2.2.2 := by
  obtain ⟨a, b, c, d⟩ := x
  obtain ⟨a', b', c', d'⟩ := y
  simp only [dtM] at hx hy
  show ((nfU n c d, nfV n c d, 0, 0) : K4) = (nfU n c' d', nfV n c' d', 0, 0) ↔ n ∣ c * d' - c' * d
  rw [nfk_iff n1]
  constructor
  · rintro ⟨s, hs, ⟨p, hp⟩, ⟨q, hq⟩⟩
    exact ⟨p * d - c * q, by grind⟩
  · rintro ⟨r, hr⟩
    refine ⟨a * d' - b * c', ?_, ⟨a * r, by grind⟩, ⟨b * r, by grind⟩⟩
    have e : ∃ u v : Int, u * (a * d' - b * c') + v * n = 1 := ⟨a' * d - b' * c, (a * b' - b * a') * r, by grind⟩
    obtain ⟨u, v, e⟩ := e
    have h1 : ((Int.gcd (a * d' - b * c') n : Nat) : Int) ∣ 1 := by
      rw [← e]
      exact Int.dvd_add (Int.dvd_mul_of_dvd_right (Int.gcd_dvd_left ..)) (Int.dvd_mul_of_dvd_right (Int.gcd_dvd_right ..))
    have h2 := Int.natAbs_dvd_natAbs.2 h1
    simpa using h2
/-- A sum over the places of a list. -/
theorem smB_shift (h : Nat → Nat) : ∀ n, smB h (n + 1) = h 0 + smB (fun i => h (i + 1)) n
  | 0 => by simp [smB]
  | n + 1 => by rw [smB, smB_shift h n, smB]; omega
theorem smB_list {α : Type} (d : α) (W : α → Nat) : ∀ l : List α, smB (fun q => W (l.getD q d)) l.length = (l.map W).sum
  | [] => rfl
  | a :: l => by
    rw [List.length_cons, smB_shift, List.map_cons, List.sum_cons, ← smB_list d W l]
    rfl
theorem cntB_smB (t : Nat → Bool) : ∀ n, cntB t n = smB (fun i => if t i = true then 1 else 0) n
  | 0 => rfl
  | n + 1 => by rw [cntB, smB, cntB_smB t n]
theorem smB_scale (t : Nat → Bool) (c : Nat) : ∀ n, smB (fun i => if t i = true then c else 0) n = c * cntB t n
  | 0 => rfl
  | n + 1 => by
    rw [smB, cntB, smB_scale t c n, Nat.mul_add]
    cases t n <;> simp
/-- An action whose -1 does nothing is its own projective action. -/
theorem PAct.triv {g f : Nat → Nat} {n : Nat} (h : PAct g f n) (hz : ∀ i, i < n → g (g i) = i) : mO g n = n ∧ (∀ q, q < n → sO g n q = g q) ∧ ∀ q, q < n → tO g f n q = f q := by
  obtain ⟨h1, h2⟩ := pjN_id (z := zOf g) n hz
  have hm : mO g n = n := by unfold mO; rw [h1, List.length_range]
  have hl : ∀ q, q < n → lsO g n q = q := fun q hq => by unfold lsO; rw [h1]; simp [List.getD, hq]
  refine ⟨hm, fun q hq => ?_, fun q hq => ?_⟩
  · show phO g n (g (lsO g n q)) = _
    rw [hl q hq]; exact h2 _ (h.gp.lt q hq)
  · show phO g n (f (lsO g n q)) = _
    rw [hl q hq]; exact h2 _ (h.fp.lt q hq)
/-- The two rows of numbers stand for one point. -/
theorem nf_both {n : Int} (n1 : 1 ≤ n) (c d : Int) : ∃ T R : Int, n ∣ T * nfU n c d - c ∧ n ∣ T * nfV n c d - d ∧ n ∣ R * c - nfU n c d ∧ n ∣ R * d - nfV n c d := by
  obtain ⟨T, h⟩ := nf_spec n1 c d
  obtain ⟨R, hR, h1, h2⟩ := h.inv
  exact ⟨T, R, h.eu, h.ev, h1, h2⟩
def wS (k : Nat) (v : K4) : Nat := if (v.1 * v.1 + v.2.1 * v.2.1) % (k : Int) = 0 then 1 else 0
def wU (k : Nat) (v : K4) : Nat := if (v.1 * v.1 - v.1 * v.2.1 + v.2.1 * v.2.1) % (k : Int) = 0 then 1 else 0
def wC (k : Nat) (v : K4) : Nat := Int.gcd (v.1 * v.1) (k : Int)
theorem wS_eq {k : Nat} (k1 : 1 ≤ k) (x : M4) : wS k (kc1 (k : Int) x) = if (k : Int) ∣ x.2.2.1 * x.2.2.1 + x.2.2.2 * x.2.2.2 then 1 else 0 := by
  obtain ⟨T, R, ⟨a, ha⟩, ⟨b, hb⟩, ⟨c, hc⟩, ⟨d, hd⟩⟩ := nf_both (n := (k : Int)) (by omega) x.2.2.1 x.2.2.2
  unfold wS
  show (if (nfU (k : Int) x.2.2.1 x.2.2.2 * nfU (k : Int) x.2.2.1 x.2.2.2 + nfV (k : Int) x.2.2.1 x.2.2.2 * nfV (k : Int) x.2.2.1 x.2.2.2) % (k : Int) = 0 then 1 else 0) = _
  generalize nfU (k : Int) x.2.2.1 x.2.2.2 = U at *
  generalize nfV (k : Int) x.2.2.1 x.2.2.2 = V at *
  generalize x.2.2.1 = C at *
  generalize x.2.2.2 = D at *
  have e : (U * U + V * V) % (k : Int) = 0 ↔ (k : Int) ∣ C * C + D * D := by
    rw [← Int.dvd_iff_emod_eq_zero]
    constructor
    · rintro ⟨r, hr⟩
      exact ⟨T * T * r - (T * U + C) * a - (T * V + D) * b, by grind⟩
    · rintro ⟨r, hr⟩
      exact ⟨R * R * r - (R * C + U) * c - (R * D + V) * d, by grind⟩
  by_cases h : (k : Int) ∣ C * C + D * D
  · rw [if_pos h, if_pos (e.2 h)]
  · rw [if_neg h, if_neg fun h' => h (e.1 h')]
theorem wU_eq {k : Nat} (k1 : 1 ≤ k) (x : M4) : wU k (kc1 (k : Int) x) = if (k : Int) ∣ x.2.2.1 * x.2.2.1 - x.2.2.1 * x.2.2.2 + x.2.2.2 * x.2.2.2 then 1 else 0 := by
  obtain ⟨T, R, ⟨a, ha⟩, ⟨b, hb⟩, ⟨c, hc⟩, ⟨d, hd⟩⟩ := nf_both (n := (k : Int)) (by omega) x.2.2.1 x.2.2.2
  unfold wU
  show (if (nfU (k : Int) x.2.2.1 x.2.2.2 * nfU (k : Int) x.2.2.1 x.2.2.2 - nfU (k : Int) x.2.2.1 x.2.2.2 * nfV (k : Int) x.2.2.1 x.2.2.2 + nfV (k : Int) x.2.2.1 x.2.2.2 * nfV (k : Int) x.2.2.1 x.2.2.2) % (k : Int) = 0 then 1 else 0) = _
  generalize nfU (k : Int) x.2.2.1 x.2.2.2 = U at *
  generalize nfV (k : Int) x.2.2.1 x.2.2.2 = V at *
  generalize x.2.2.1 = C at *
  generalize x.2.2.2 = D at *
  have e : (U * U - U * V + V * V) % (k : Int) = 0 ↔ (k : Int) ∣ C * C - C * D + D * D := by
    rw [← Int.dvd_iff_emod_eq_zero]
    constructor
    · rintro ⟨r, hr⟩
      exact ⟨T * T * r - (T * U + C) * a - (T * V + D) * b + a * T * V + C * b, by grind⟩
    · rintro ⟨r, hr⟩
      exact ⟨R * R * r - (R * C + U) * c - (R * D + V) * d + c * R * D + U * d, by grind⟩
  by_cases h : (k : Int) ∣ C * C - C * D + D * D
  · rw [if_pos h, if_pos (e.2 h)]
  · rw [if_neg h, if_neg fun h' => h (e.1 h')]
theorem wC_eq {k : Nat} (k1 : 1 ≤ k) (x : M4) : wC k (kc1 (k : Int) x) = Int.gcd (x.2.2.1 * x.2.2.1) (k : Int) := by
  obtain ⟨T, R, ⟨a, ha⟩, ⟨b, hb⟩, ⟨c, hc⟩, ⟨d, hd⟩⟩ := nf_both (n := (k : Int)) (by omega) x.2.2.1 x.2.2.2
  unfold wC
  show Int.gcd (nfU (k : Int) x.2.2.1 x.2.2.2 * nfU (k : Int) x.2.2.1 x.2.2.2) (k : Int) = _
  generalize nfU (k : Int) x.2.2.1 x.2.2.2 = U at *
  generalize x.2.2.1 = C at *
  have key : ∀ {U C T a : Int}, T * U - C = (k : Int) * a → Int.gcd (U * U) (k : Int) ∣ Int.gcd (C * C) (k : Int) := fun {U C T a} h => by
    refine Int.dvd_gcd ?_ (Int.gcd_dvd_right ..)
    have e : C * C = T * T * (U * U) - (T * U + C) * a * (k : Int) := by grind
    rw [e]
    exact Int.dvd_sub (Int.dvd_mul_of_dvd_right (Int.gcd_dvd_left ..)) (Int.dvd_mul_of_dvd_right (Int.gcd_dvd_right ..))
  exact Nat.dvd_antisymm (key ha) (key hc)
section
variable {k : Nat} (k1 : 1 ≤ k)
include k1
theorem g0_cos : Cos (kc1 (k : Int)) := kos1 (by omega)
theorem g0_mem {x : M4} (hx : dtM x = 1) : kc1 (k : Int) x ∈ (srun (kc1 (k : Int)) (V1 k).length).K := SFin.all (g0_cos k1) (kfin1 k1) hx
theorem g0_perm : (srun (kc1 (k : Int)) (V1 k).length).K.Perm (V1 k) := by
  have hF := kfin1 k1
  have hR := hF.ri
  refine (List.perm_ext_iff_of_nodup (by rw [hR.k]; exact hR.nd) (v1_nodup k)).2 fun v => ⟨fun hv => ?_, fun hv => ?_⟩
  · rw [hR.k] at hv
    obtain ⟨x, hx, rfl⟩ := List.mem_map.1 hv
    exact nf_in k1 (row_cop (hR.d x hx))
  · obtain ⟨c, d, hc, hv⟩ := nf_on k1 hv
    obtain ⟨x, hx, h1, h2⟩ := lift_row' hc
    rw [← hv _ _ h1 h2]
    exact g0_mem k1 hx
/-- A sum over the points. -/
theorem g0_sum (W : K4 → Nat) : smB (fun q => W (kc1 (k : Int) ((srun (kc1 (k : Int)) (V1 k).length).L.getD q (0, 0, 0, 0)))) (V1 k).length = ((V1 k).map W).sum := by
  have hF := kfin1 k1
  have hR := hF.ri
  have h1 := smB_list ((0, 0, 0, 0) : M4) (fun x => W (kc1 (k : Int) x)) (srun (kc1 (k : Int)) (V1 k).length).L
  rw [hF.len] at h1
  rw [h1, ← List.Perm.sum_nat ((g0_perm k1).map W), hR.k, List.map_map]
  rfl
/-- x T^w. -/
def twP : Nat → M4 → M4
  | 0, x => x
  | w + 1, x => mT (twP w x)
omit k1 in
theorem twP_dt {x : M4} (hx : dtM x = 1) : ∀ w, dtM (twP w x) = 1
  | 0 => hx
  | w + 1 => by show dtM (mT (twP w x)) = 1; rw [dtM_T]; exact twP_dt hx w
omit k1 in
theorem twP_row (x : M4) : ∀ w : Nat, (twP w x).2.2.1 = x.2.2.1 ∧ (twP w x).2.2.2 = x.2.2.2 + (w : Int) * x.2.2.1
  | 0 => ⟨rfl, by show x.2.2.2 = _; simp⟩
  | w + 1 => by
    obtain ⟨h1, h2⟩ := twP_row x w
    refine ⟨h1, ?_⟩
    show (twP w x).2.2.1 + (twP w x).2.2.2 = _
    rw [h1, h2, Int.natCast_add, Int.add_mul]
    omega
theorem g0_itr {x : M4} (hx : dtM x = 1) : ∀ w, itr (fnz (iz (srun (kc1 (k : Int)) (V1 k).length).T)) w (plC (kc1 (k : Int)) (V1 k).length x) = plC (kc1 (k : Int)) (V1 k).length (twP w x)
  | 0 => rfl
  | w + 1 => by
    show fnz _ (itr _ w _) = _
    rw [g0_itr hx w]
    exact (kfin1 k1).atT (g0_cos k1) (twP_dt hx w) (g0_mem k1 (twP_dt hx w))
theorem g0_pl {x y : M4} (hx : dtM x = 1) (hy : dtM y = 1) : plC (kc1 (k : Int)) (V1 k).length x = plC (kc1 (k : Int)) (V1 k).length y ↔ (k : Int) ∣ x.2.2.1 * y.2.2.2 - y.2.2.1 * x.2.2.2 := by
  rw [← kc1_iffP (by omega) hx hy]
  refine ⟨fun e => (kfin1 k1).pl_inj (g0_mem k1 hx) (g0_mem k1 hy) e, fun e => ?_⟩
  show List.idxOf _ _ = List.idxOf _ _
  rw [e]
/-- The length of a cycle of T. -/
theorem g0_per {x : M4} (hx : dtM x = 1) : IsPer (fnz (iz (srun (kc1 (k : Int)) (V1 k).length).T)) (plC (kc1 (k : Int)) (V1 k).length x) (k / Int.gcd (x.2.2.1 * x.2.2.1) (k : Int)) := by
  have key : ∀ w : Nat, itr (fnz (iz (srun (kc1 (k : Int)) (V1 k).length).T)) w (plC (kc1 (k : Int)) (V1 k).length x) = plC (kc1 (k : Int)) (V1 k).length x ↔ (k : Int) ∣ (w : Int) * (x.2.2.1 * x.2.2.1) := fun w => by
    rw [g0_itr k1 hx w, g0_pl k1 (twP_dt hx w) hx, (twP_row x w).1, (twP_row x w).2]
    generalize x.2.2.1 = c
    generalize x.2.2.2 = d
    constructor
    · rintro ⟨r, hr⟩; exact ⟨-r, by grind⟩
    · rintro ⟨r, hr⟩; exact ⟨-r, by grind⟩
  generalize x.2.2.1 * x.2.2.1 = s at *
  have hg : 0 < Int.gcd s (k : Int) := Int.gcd_pos_of_ne_zero_right s (by omega)
  have hgd : Int.gcd s (k : Int) ∣ k := by
    have := Int.gcd_dvd_right s (k : Int)
    exact Int.natCast_dvd_natCast.1 this
  have hgs : ((Int.gcd s (k : Int) : Nat) : Int) ∣ s := Int.gcd_dvd_left ..
  have hw : ∀ w : Nat, (k : Int) ∣ (w : Int) * s ↔ k / Int.gcd s (k : Int) ∣ w := fun w => by
    obtain ⟨q, hq⟩ := hgd
    obtain ⟨r, hr⟩ := hgs
    have hcop : Int.gcd r (q : Int) = 1 := by
      have h1 : Int.gcd s (k : Int) = Int.gcd s (k : Int) * Int.gcd r (q : Int) := by
        have h2 := Int.gcd_mul_left ((Int.gcd s (k : Int) : Nat) : Int) r (q : Int)
        rw [← hr, show ((Int.gcd s (k : Int) : Nat) : Int) * (q : Int) = (k : Int) by rw [← Int.natCast_mul, ← hq]] at h2
        simpa using h2
      have h3 : Int.gcd s (k : Int) * 1 = Int.gcd s (k : Int) * Int.gcd r (q : Int) := by rw [Nat.mul_one]; exact h1
      exact (Nat.eq_of_mul_eq_mul_left hg h3).symm
    generalize Int.gcd s (k : Int) = G at *
    subst hq hr
    rw [Nat.mul_div_cancel_left q hg]
    constructor
    · rintro ⟨t, ht⟩
      have h4 : (G : Int) * ((w : Int) * r) = (G : Int) * ((q : Int) * t) := by rw [Int.natCast_mul] at ht; grind
      have h5 : (w : Int) * r = (q : Int) * t := Int.eq_of_mul_eq_mul_left (by omega) h4
      have h6 : (q : Int) ∣ (w : Int) * r := ⟨t, h5⟩
      have h7 := Int.natAbs_dvd_natAbs.2 h6
      rw [Int.natAbs_mul, Int.natAbs_natCast, Int.natAbs_natCast] at h7
      have h8 : Nat.Coprime q r.natAbs := by
        have : Int.gcd r (q : Int) = Nat.gcd r.natAbs q := rfl
        rw [Nat.Coprime, Nat.gcd_comm, ← this]; exact hcop
      exact Nat.Coprime.dvd_of_dvd_mul_right h8 h7
    · rintro ⟨t, rfl⟩
      exact ⟨(t : Int) * r, by rw [Int.natCast_mul, Int.natCast_mul]; grind⟩
  refine ⟨Nat.div_pos (Nat.le_of_dvd k1 hgd) hg, (key _).2 ((hw _).2 (Nat.dvd_refl _)), fun j h1 h2 e => ?_⟩
  have := (hw j).1 ((key j).1 e)
  exact absurd (Nat.le_of_dvd h1 this) (by omega)
/-- The signature of the coset action of Gamma0(k), by sums over the projective line. -/
theorem g0_sig : mO (fnz (iz (srun (kc1 (k : Int)) (V1 k).length).S)) (V1 k).length = (V1 k).length ∧
    n2Z (fnz (iz (srun (kc1 (k : Int)) (V1 k).length).S)) (V1 k).length = ((V1 k).map (wS k)).sum ∧
    n3Z (fnz (iz (srun (kc1 (k : Int)) (V1 k).length).S)) (fnz (iz (srun (kc1 (k : Int)) (V1 k).length).T)) (V1 k).length = ((V1 k).map (wU k)).sum ∧
    k * cuZ (fnz (iz (srun (kc1 (k : Int)) (V1 k).length).S)) (fnz (iz (srun (kc1 (k : Int)) (V1 k).length).T)) (V1 k).length = ((V1 k).map (wC k)).sum := by
  have hF := kfin1 k1
  have hC := g0_cos k1
  have hP := hF.pact hC
  have hS := fun {x : M4} (hx : dtM x = 1) => hF.atS hC hx (g0_mem k1 hx)
  have hT := fun {x : M4} (hx : dtM x = 1) => hF.atT hC hx (g0_mem k1 hx)
  have hdS := fun {x : M4} (hx : dtM x = 1) => show dtM (mS x) = 1 by rw [dtM_S]; exact hx
  have hdT := fun {x : M4} (hx : dtM x = 1) => show dtM (mT x) = 1 by rw [dtM_T]; exact hx
  have hzz : ∀ i, i < (V1 k).length → fnz (iz (srun (kc1 (k : Int)) (V1 k).length).S) (fnz (iz (srun (kc1 (k : Int)) (V1 k).length).S) i) = i := fun i hi => by
    have hx := hF.dL hi
    have hi' := hF.pl_L hi
    rw [← hi', hS hx, hS (hdS hx), g0_pl k1 (hdS (hdS hx)) hx]
    generalize (srun (kc1 (k : Int)) (V1 k).length).L.getD i (0, 0, 0, 0) = x
    refine ⟨0, ?_⟩
    show -x.2.2.1 * x.2.2.2 - x.2.2.1 * -x.2.2.2 = _
    grind
  obtain ⟨hm, hs, ht⟩ := hP.triv hzz
  refine ⟨hm, ?_, ?_, ?_⟩
  · rw [← g0_sum k1 (wS k)]
    unfold n2Z
    rw [hm, cntB_smB]
    refine smB_congr _ fun q hq => ?_
    have hx := hF.dL hq
    have hq' := hF.pl_L hq
    rw [wS_eq k1, hs q hq]
    have e : fnz (iz (srun (kc1 (k : Int)) (V1 k).length).S) q = q ↔ (k : Int) ∣ ((srun (kc1 (k : Int)) (V1 k).length).L.getD q (0, 0, 0, 0)).2.2.1 * ((srun (kc1 (k : Int)) (V1 k).length).L.getD q (0, 0, 0, 0)).2.2.1 + ((srun (kc1 (k : Int)) (V1 k).length).L.getD q (0, 0, 0, 0)).2.2.2 * ((srun (kc1 (k : Int)) (V1 k).length).L.getD q (0, 0, 0, 0)).2.2.2 := by
      have h1 := hS hx
      have h2 := g0_pl k1 (hdS hx) hx
      rw [hq'] at h1 h2
      rw [h1, h2]
      generalize (srun (kc1 (k : Int)) (V1 k).length).L.getD q (0, 0, 0, 0) = x
      show (k : Int) ∣ x.2.2.2 * x.2.2.2 - x.2.2.1 * -x.2.2.1 ↔ _
      rw [show x.2.2.2 * x.2.2.2 - x.2.2.1 * -x.2.2.1 = x.2.2.1 * x.2.2.1 + x.2.2.2 * x.2.2.2 by grind]
    by_cases h : fnz (iz (srun (kc1 (k : Int)) (V1 k).length).S) q = q
    · rw [if_pos (decide_eq_true h), if_pos (e.1 h)]
    · rw [if_neg (by simpa using h), if_neg fun h' => h (e.2 h')]
  · rw [← g0_sum k1 (wU k)]
    unfold n3Z
    rw [hm, cntB_smB]
    refine smB_congr _ fun q hq => ?_
    have hx := hF.dL hq
    have hq' := hF.pl_L hq
    rw [wU_eq k1, hs q hq, ht _ (hP.gp.lt q hq)]
    have e : fnz (iz (srun (kc1 (k : Int)) (V1 k).length).T) (fnz (iz (srun (kc1 (k : Int)) (V1 k).length).S) q) = q ↔ (k : Int) ∣ ((srun (kc1 (k : Int)) (V1 k).length).L.getD q (0, 0, 0, 0)).2.2.1 * ((srun (kc1 (k : Int)) (V1 k).length).L.getD q (0, 0, 0, 0)).2.2.1 - ((srun (kc1 (k : Int)) (V1 k).length).L.getD q (0, 0, 0, 0)).2.2.1 * ((srun (kc1 (k : Int)) (V1 k).length).L.getD q (0, 0, 0, 0)).2.2.2 + ((srun (kc1 (k : Int)) (V1 k).length).L.getD q (0, 0, 0, 0)).2.2.2 * ((srun (kc1 (k : Int)) (V1 k).length).L.getD q (0, 0, 0, 0)).2.2.2 := by
      have h1 := hS hx
      have h3 := hT (hdS hx)
      have h2 := g0_pl k1 (hdT (hdS hx)) hx
      rw [hq'] at h1 h2
      rw [h1, h3, h2]
      generalize (srun (kc1 (k : Int)) (V1 k).length).L.getD q (0, 0, 0, 0) = x
      show (k : Int) ∣ x.2.2.2 * x.2.2.2 - x.2.2.1 * (x.2.2.2 + -x.2.2.1) ↔ _
      rw [show x.2.2.2 * x.2.2.2 - x.2.2.1 * (x.2.2.2 + -x.2.2.1) = x.2.2.1 * x.2.2.1 - x.2.2.1 * x.2.2.2 + x.2.2.2 * x.2.2.2 by grind]
    by_cases h : fnz (iz (srun (kc1 (k : Int)) (V1 k).length).T) (fnz (iz (srun (kc1 (k : Int)) (V1 k).length).S) q) = q
    · rw [if_pos (decide_eq_true h), if_pos (e.1 h)]
    · rw [if_neg (by simpa using h), if_neg fun h' => h (e.2 h')]
  · rw [← g0_sum k1 (wC k)]
    have hz : Inv2 (fnz (iz (srun (kc1 (k : Int)) (V1 k).length).T)) (fun i => fnz (iz (srun (kc1 (k : Int)) (V1 k).length).S) (fnz (iz (srun (kc1 (k : Int)) (V1 k).length).S) i)) (V1 k).length := ⟨fun i hi => hP.gp.lt _ (hP.gp.lt i hi), fun i hi => hP.zz i hi, fun i hi => hP.fc i hi⟩
    have hR := cst_reps hP.fp hz
    refine (cls_weight (uB_eqv hP.fp hz) hR (fun q => wC k (kc1 (k : Int) ((srun (kc1 (k : Int)) (V1 k).length).L.getD q (0, 0, 0, 0)))) fun x hx => ?_).symm
    have hxN := hR.lt x hx
    have hd := hF.dL hxN
    have hpl := hF.pl_L hxN
    have hper := g0_per k1 hd
    rw [hpl] at hper
    have hcnt := cnt_u (p := x) hP.fp hz hxN
    rw [wid0_fix hP.fp hxN (hzz x hxN), (perO_spec hP.fp hxN).1.uniq hper] at hcnt
    have hw : ∀ i, i < (V1 k).length → uB (fnz (iz (srun (kc1 (k : Int)) (V1 k).length).T)) (fun i => fnz (iz (srun (kc1 (k : Int)) (V1 k).length).S) (fnz (iz (srun (kc1 (k : Int)) (V1 k).length).S) i)) (V1 k).length x i = true → wC k (kc1 (k : Int) ((srun (kc1 (k : Int)) (V1 k).length).L.getD i (0, 0, 0, 0))) = Int.gcd (((srun (kc1 (k : Int)) (V1 k).length).L.getD x (0, 0, 0, 0)).2.2.1 * ((srun (kc1 (k : Int)) (V1 k).length).L.getD x (0, 0, 0, 0)).2.2.1) (k : Int) := fun i hi hu => by
      rw [uB_iff hP.fp hz hxN, hzz x hxN, or_self] at hu
      obtain ⟨w, e⟩ := hu
      have hdi := hF.dL hi
      have e2 : plC (kc1 (k : Int)) (V1 k).length (twP w ((srun (kc1 (k : Int)) (V1 k).length).L.getD x (0, 0, 0, 0))) = plC (kc1 (k : Int)) (V1 k).length ((srun (kc1 (k : Int)) (V1 k).length).L.getD i (0, 0, 0, 0)) := by
        rw [← g0_itr k1 hd w, hpl, e, hF.pl_L hi]
      have e3 := hF.pl_inj (g0_mem k1 (twP_dt hd w)) (g0_mem k1 hdi) e2
      rw [← e3, wC_eq k1, (twP_row _ w).1]
    have e4 : smB (fun i => @ite Nat (uB (fnz (iz (srun (kc1 (k : Int)) (V1 k).length).T)) (fun i => fnz (iz (srun (kc1 (k : Int)) (V1 k).length).S) (fnz (iz (srun (kc1 (k : Int)) (V1 k).length).S) i)) (V1 k).length x i = true) (Classical.propDecidable _) (wC k (kc1 (k : Int) ((srun (kc1 (k : Int)) (V1 k).length).L.getD i (0, 0, 0, 0)))) 0) (V1 k).length = smB (fun i => if uB (fnz (iz (srun (kc1 (k : Int)) (V1 k).length).T)) (fun i => fnz (iz (srun (kc1 (k : Int)) (V1 k).length).S) (fnz (iz (srun (kc1 (k : Int)) (V1 k).length).S) i)) (V1 k).length x i = true then Int.gcd (((srun (kc1 (k : Int)) (V1 k).length).L.getD x (0, 0, 0, 0)).2.2.1 * ((srun (kc1 (k : Int)) (V1 k).length).L.getD x (0, 0, 0, 0)).2.2.1) (k : Int) else 0) (V1 k).length := smB_congr _ fun i hi => by
      by_cases h : uB (fnz (iz (srun (kc1 (k : Int)) (V1 k).length).T)) (fun i => fnz (iz (srun (kc1 (k : Int)) (V1 k).length).S) (fnz (iz (srun (kc1 (k : Int)) (V1 k).length).S) i)) (V1 k).length x i = true
      · rw [if_pos h, if_pos h, hw i hi h]
      · rw [if_neg h, if_neg h]
    refine e4.trans ?_
    rw [smB_scale, hcnt]
    refine Nat.mul_div_cancel' ?_
    exact Int.natCast_dvd_natCast.1 (Int.gcd_dvd_right _ (k : Int))
end
end Go.Proofs.Ytmikhkolbkdnpaa
namespace Go.Proofs.Ytmikhkolbkdnpaa
set_option linter.unusedVariables false

def rowS (W : Nat → Nat → Nat) (n u : Nat) : Nat := if (u == 0 || n % u == 0) = true then (let F := fixN n u; (((List.range n).filter (fastB n u F)).map (W u)).sum) else 0
theorem rowS_eq (W : Nat → Nat → Nat) {n u : Nat} (n1 : 1 ≤ n) (n2 : n ≤ 120) (hu1 : u < n) : rowS W n u = ((row n u).map (W u)).sum := by
  unfold rowS
  by_cases h : u = 0 ∨ u ∣ n
  · rw [if_pos (by rcases h with h | h; simp [h]; rw [Nat.mod_eq_zero_of_dvd h]; simp)]
    show (((List.range n).filter (fastB n u (fixN n u))).map (W u)).sum = (((List.range n).filter (ptB n u)).map (W u)).sum
    rw [List.filter_congr fun v hv => fast_eq hu1 h (List.mem_range.1 hv)]
  · rw [row_no n1 n2 hu1 h, if_neg]
    · rfl
    · intro hc
      rw [Bool.or_eq_true, beq_iff_eq, beq_iff_eq] at hc
      rcases hc with hc | hc
      · exact h (.inl hc)
      · exact h (.inr (Nat.dvd_of_mod_eq_zero hc))
def sumU (W : Nat → Nat → Nat) (n : Nat) : Nat → Nat
  | 0 => 0
  | u + 1 => sumU W n u + rowS W n u
theorem sumU_eq (W : Nat → Nat → Nat) {n : Nat} (n1 : 1 ≤ n) (n2 : n ≤ 120) : ∀ u, u ≤ n → sumU W n u = ((ptu n u).map fun p => W p.1 p.2).sum
  | 0, _ => rfl
  | u + 1, h => by
    rw [sumU, sumU_eq W n1 n2 u (by omega), rowS_eq W n1 n2 (by omega), ptu_succ, List.map_append, List.sum_append, List.map_map]
    rfl
theorem sum_V1 (W : K4 → Nat) {n : Nat} (n1 : 1 ≤ n) (n2 : n ≤ 120) : ((V1 n).map W).sum = sumU (fun u v => W ((u : Int), (v : Int), 0, 0)) n n := by
  rw [sumU_eq _ n1 n2 n (Nat.le_refl n), ptu_pts]
  unfold V1
  rw [List.map_map]
  rfl
def s0Ok (n : Nat) : Bool := n == 0 || (sumU (fun u v => if (u * u + v * v) % n = 0 then 1 else 0) n n == (rtV 4 4 n).toNat && decide (0 ≤ rtV 4 4 n))
def u0Ok (n : Nat) : Bool := n == 0 || (sumU (fun u v => if (u * u + v * v + n * n - u * v) % n = 0 then 1 else 0) n n == (rtV 3 9 n).toNat && decide (0 ≤ rtV 3 9 n))
def c0Ok (n : Nat) : Bool := n == 0 || (sumU (fun u v => Nat.gcd (u * u) n) n n == n * cuV n && psiN n == psV n)
theorem s0_a : (List.range 60).all s0Ok = true := by decide +kernel
theorem s0_b : (List.range 35).all (fun k => s0Ok (60 + k)) = true := by decide +kernel
theorem s0_c : (List.range 26).all (fun k => s0Ok (95 + k)) = true := by decide +kernel
theorem u0_a : (List.range 60).all u0Ok = true := by decide +kernel
theorem u0_b : (List.range 35).all (fun k => u0Ok (60 + k)) = true := by decide +kernel
theorem u0_c : (List.range 26).all (fun k => u0Ok (95 + k)) = true := by decide +kernel
theorem c0_a : (List.range 60).all c0Ok = true := by decide +kernel
theorem c0_b : (List.range 35).all (fun k => c0Ok (60 + k)) = true := by decide +kernel
theorem c0_c : (List.range 26).all (fun k => c0Ok (95 + k)) = true := by decide +kernel
theorem sumU_congr {W W' : Nat → Nat → Nat} {n : Nat} (n1 : 1 ≤ n) (n2 : n ≤ 120) (h : ∀ u v, u < n → v < n → W u v = W' u v) : sumU W n n = sumU W' n n := by
  rw [sumU_eq W n1 n2 n (Nat.le_refl n), sumU_eq W' n1 n2 n (Nat.le_refl n), ptu_pts]
  congr 1
  refine List.map_congr_left fun p hp => ?_
  obtain ⟨a, b⟩ := p
  obtain ⟨h1, h2, _⟩ := mem_pts.1 hp
  exact h a b h1 h2
theorem s0_val {n : Nat} (n1 : 1 ≤ n) (n2 : n ≤ 120) : ((V1 n).map (wS n)).sum = (rtV 4 4 n).toNat ∧ 0 ≤ rtV 4 4 n := by
  have h : s0Ok n = true := three_parts s0_a s0_b s0_c n2
  unfold s0Ok at h
  rw [Bool.or_eq_true, beq_iff_eq, Bool.and_eq_true, beq_iff_eq, decide_eq_true_eq] at h
  rcases h with h | ⟨h1, h2⟩
  · omega
  · refine ⟨?_, h2⟩
    rw [sum_V1 _ n1 n2, ← h1]
    refine sumU_congr n1 n2 fun u v _ _ => ?_
    unfold wS
    show (if ((u : Int) * u + (v : Int) * v) % (n : Int) = 0 then 1 else 0) = _
    have e : ((u : Int) * u + (v : Int) * v) % (n : Int) = (((u * u + v * v) % n : Nat) : Int) := by
      rw [Int.natCast_emod, Int.natCast_add, Int.natCast_mul, Int.natCast_mul]
    rw [e]
    by_cases h : (u * u + v * v) % n = 0
    · rw [if_pos h, if_pos (by omega)]
    · rw [if_neg h, if_neg (by omega)]
theorem u0_val {n : Nat} (n1 : 1 ≤ n) (n2 : n ≤ 120) : ((V1 n).map (wU n)).sum = (rtV 3 9 n).toNat ∧ 0 ≤ rtV 3 9 n := by
  have h : u0Ok n = true := three_parts u0_a u0_b u0_c n2
  unfold u0Ok at h
  rw [Bool.or_eq_true, beq_iff_eq, Bool.and_eq_true, beq_iff_eq, decide_eq_true_eq] at h
  rcases h with h | ⟨h1, h2⟩
  · omega
  · refine ⟨?_, h2⟩
    rw [sum_V1 _ n1 n2, ← h1]
    refine sumU_congr n1 n2 fun u v hu hv => ?_
    unfold wU
    show (if ((u : Int) * u - (u : Int) * v + (v : Int) * v) % (n : Int) = 0 then 1 else 0) = _
    have hle : u * v ≤ n * n := Nat.mul_le_mul (by omega) (by omega)
    have e : ((u : Int) * u - (u : Int) * v + (v : Int) * v) % (n : Int) = (((u * u + v * v + n * n - u * v) % n : Nat) : Int) := by
      rw [Int.natCast_emod, Int.natCast_sub (by omega), Int.natCast_add, Int.natCast_add, Int.natCast_mul, Int.natCast_mul, Int.natCast_mul, Int.natCast_mul]
      rw [show (u : Int) * u + (v : Int) * v + (n : Int) * n - (u : Int) * v = ((u : Int) * u - (u : Int) * v + (v : Int) * v) + (n : Int) * n by omega, Int.add_mul_emod_self_left]
    rw [e]
    by_cases h : (u * u + v * v + n * n - u * v) % n = 0
    · rw [if_pos h, if_pos (by omega)]
    · rw [if_neg h, if_neg (by omega)]
theorem c0_val {n : Nat} (n1 : 1 ≤ n) (n2 : n ≤ 120) : ((V1 n).map (wC n)).sum = n * cuV n ∧ psiN n = psV n := by
  have h : c0Ok n = true := three_parts c0_a c0_b c0_c n2
  unfold c0Ok at h
  rw [Bool.or_eq_true, beq_iff_eq, Bool.and_eq_true, beq_iff_eq, beq_iff_eq] at h
  rcases h with h | ⟨h1, h2⟩
  · omega
  · refine ⟨?_, h2⟩
    rw [sum_V1 _ n1 n2, ← h1]
    refine sumU_congr n1 n2 fun u v _ _ => ?_
    unfold wC
    show Int.gcd ((u : Int) * u) (n : Int) = _
    rw [← Int.natCast_mul]
    rfl
/-- The coset action of Gamma0(n) has the signature of the formula. -/
theorem g0_all {n : Nat} (n1 : 1 ≤ n) (n2 : n ≤ 120) (hc : ckxI 1 (n : Int) = 0) : mO (fnz (olS 1 (n : Int))) (olS 1 (n : Int)).length = psV n ∧ ((n2Z (fnz (olS 1 (n : Int))) (olS 1 (n : Int)).length : Nat) : Int) = rtV 4 4 n ∧ ((n3Z (fnz (olS 1 (n : Int))) (fnz (olT 1 (n : Int))) (olS 1 (n : Int)).length : Nat) : Int) = rtV 3 9 n ∧ cuZ (fnz (olS 1 (n : Int))) (fnz (olT 1 (n : Int))) (olS 1 (n : Int)).length = cuV n := by
  obtain ⟨h1, h2, h3, h4⟩ := g0_sig n1
  have hl : (olS 1 (n : Int)).length = idxN 1 ((n : Int)).toNat := by unfold olS; rw [iz_len]; exact (srun_len _ _).2.1
  have hi : idxN 1 ((n : Int)).toNat = (V1 n).length := by
    have hk := (ckx_kf hc).1.fin
    have := (kfin1 n1)
    unfold V1
    rw [List.length_map, pts_psi n1 n2, Int.toNat_natCast]
    rfl
  have e1 : olS 1 (n : Int) = iz (srun (kc1 (n : Int)) (V1 n).length).S := by
    unfold olS; rw [hi]; rfl
  have e2 : olT 1 (n : Int) = iz (srun (kc1 (n : Int)) (V1 n).length).T := by
    unfold olT; rw [hi]; rfl
  rw [hl, hi, e1, e2]
  obtain ⟨s1, s2⟩ := s0_val n1 n2
  obtain ⟨u1, u2⟩ := u0_val n1 n2
  obtain ⟨c1, c2⟩ := c0_val n1 n2
  refine ⟨?_, ?_, ?_, ?_⟩
  · rw [h1, ← c2]
    unfold V1
    rw [List.length_map, pts_psi n1 n2]
  · rw [h2, s1]; omega
  · rw [h3, u1]; omega
  · rw [c1] at h4
    exact Nat.eq_of_mul_eq_mul_left n1 h4
end Go.Proofs.Ytmikhkolbkdnpaa
namespace Go.Proofs.Ytmikhkolbkdnpaa
open Go.RowKit
set_option linter.unusedVariables false
set_option linter.unusedSimpArgs false

def dvP (n t : Nat) : List Nat := (List.range (t + 1)).filter fun d => decide (1 ≤ d) && decide (n % d = 0)
theorem dvP_zero (n : Nat) : dvP n 0 = [] := by unfold dvP; simp [List.range_succ]
theorem dvP_yes {n t : Nat} (h : n % (t + 1) = 0) : dvP n (t + 1) = dvP n t ++ [t + 1] := by
  unfold dvP
  rw [List.range_succ (n := t + 1), List.filter_append]
  simp [h]
theorem dvP_no {n t : Nat} (h : n % (t + 1) ≠ 0) : dvP n (t + 1) = dvP n t := by
  unfold dvP
  rw [List.range_succ (n := t + 1), List.filter_append]
  simp [h]
theorem dvP_len (n t : Nat) : (dvP n t).length ≤ t + 1 := by
  have := List.length_filter_le (fun d => decide (1 ≤ d) && decide (n % d = 0)) (List.range (t + 1))
  rwa [List.length_range] at this
structure DV (w wr : World) (v : Value) (L : List Nat) : Prop where
  own : wr.ownsRow w.heap.size 3 1 v L.length (zs (iz L))
  bel : Below w.heap.size w wr
theorem DV.push {w wr w' : World} {v v' : Value} {L : List Nat} {p : Nat} {o : Obj} (h : DV w wr v L) (hown : w'.ownsRow w.heap.size 3 1 v' (L.length + 1) (zs (iz L) ++ [.int .i64 (p : Nat)])) (hg : (wr.alloc o).grownBy w' v.ownBlock) : DV w w' v' (L ++ [p]) :=
  ⟨by rw [List.length_append, iz_append, zs_append]; exact hown, (h.bel.alloc h.bel.size o).grown hg (by have := h.bel.size; simp; omega) fun j hj => (h.own.lt j hj).1⟩
set_option maxHeartbeats 3200000 in
set_option maxRecDepth 1000000 in
theorem rdiv_any (n : Nat) (w : World) (n1 : 1 ≤ n) (n2 : (n : Int) ≤ 120) :
    Calls Try.prog 53 #[.int .i64 (n : Int)] w fun e w' => ∃ A c, e = .returned (.slice A (dvN n).length c) ∧ DV w w' (.slice A (dvN n).length c) (dvN n) := by
  obtain ⟨i0, hi0, z0, z1, z2⟩ := info_parts Try.infoInt
  have HE : Hid (dvP n n = dvN n) := rfl
  have H0 := Lib.hid (dvP_zero n)
  have HL := Lib.hid (dvP_len n)
  have HY := Lib.hid (fun t (h : n % (t + 1) = 0) => dvP_yes h)
  have HN := Lib.hid (fun t (h : n % (t + 1) ≠ 0) => dvP_no h)
  go_enter Try.func53, Try.ntmps53
  go_wp2
  go_loopw [3, 4] (fun V I wr => ∃ (t : Nat) (A : Option Addr) (c : Nat), I = .int .i64 ((t + 1 : Nat) : Int) ∧ V = .slice A (dvP n t).length c ∧ t ≤ n ∧ Hid (DV w wr (.slice A (dvP n t).length c) (dvP n t))) (fun _ I _ => n + 1 - (intOf I).toNat)
  case atStart => exact ⟨0, none, 0, rfl, by rw [H0.out]; rfl, Nat.zero_le _, by rw [H0.out]; exact ⟨World.ownsRow_nil _ _ _ _, Below.refl _ _⟩⟩
  case round =>
    obtain ⟨t, A, c, rfl, rfl, ht, HV⟩ := hrel
    by_cases htn : t < n
    · have hti : (((t + 1 : Nat)) : Int) ≤ (n : Int) := by omega
      have hll := HL.out t
      have hmod : (n : Int) % ((t + 1 : Nat) : Int) = ((n % (t + 1) : Nat) : Int) := (Int.natCast_emod n (t + 1)).symm
      obtain ⟨u, hu⟩ : ∃ u, u = t + 1 := ⟨_, rfl⟩
      have hY := HY.out t
      have hN := HN.out t
      rw [← hu] at hti hmod hY hN ⊢
      have hu1 : 1 ≤ (u : Int) := by omega
      have hu0 : ((u : Int) == 0) = false := by rw [beq_eq_false_iff_ne]; omega
      have hu2 : (u : Int) ≤ 120 := by omega
      have HU := Lib.hid hu
      have hll2 : (dvP n t).length ≤ 121 := by omega
      clear hu hll
      by_cases e : n % u = 0
      · have HP := Lib.hid (hY e)
        rw [e] at hmod
        clear hY hN e
        generalize dvP n t = L at *
        have hown := HV.out.own
        have hsz := HV.out.bel.size
        go_wp2_with (at_builtin; (refine wpList_append_own_at _ rfl _ _ 22 rfl w.heap.size 3 i0 (.int .i64 0) 1 8 Try.underlying22 hi0 z0 z1 z2 rfl (by decide) _ _ _ rfl (hown.alloc _) ⟨wr.heap.size, 0, none⟩ 1 1 [.int .i64 (u : Nat)] rfl rfl (cell_one_new' _ _ _) (fun x hx => by simp at hx; rw [hx]; rfl) (by unfold maxLen; omega) (by omega) (by simp; omega) ?_); intro v' w4 hown4 hg4 hnil4 hat4; obtain ⟨A2, c2, rfl⟩ := own_len hown4; have HN4 := Lib.hid (HV.out.push hown4 hg4); clear hown4 hg4 hnil4 hat4)
        go_roundw
        case rel => exact ⟨u, A2, c2, by go_num, by rw [HP.out, List.length_append]; rfl, by have := HU.out; omega, by rw [HP.out, List.length_append]; exact HN4.out⟩
        case measure => have := HU.out; simp [intOf]; omega
      · have HP := Lib.hid (hN e)
        have hne : (((n : Int) % (u : Int)) == 0) = false := by rw [hmod, beq_eq_false_iff_ne]; omega
        clear hY hN e hmod
        go_wp2
        go_roundw
        case rel => exact ⟨u, A, c, by go_num, by rw [HP.out], by have := HU.out; omega, by rw [HP.out]; exact HV.out⟩
        case measure => have := HU.out; simp [intOf]; omega
    · obtain rfl : t = n := by omega
      have hk3 : ¬ (((t + 1 : Nat)) : Int) ≤ (t : Int) := by omega
      rw [HE.out] at HV ⊢
      go_wp2
      go_ret
      exact ⟨A, c, rfl, HV.out⟩
def cpB (g i : Nat) : Bool := decide (Nat.gcd (i + 1) g = 1)
def rphV (g : Nat) : Nat := cntB (cpB g) g
set_option maxHeartbeats 3200000 in
set_option maxRecDepth 1000000 in
theorem rphi_any (g : Nat) (w : World) (g1 : 1 ≤ g) (g2 : (g : Int) ≤ 120) :
    Calls Try.prog 52 #[.int .i64 (g : Int)] w fun e w' => e = .returned (.int .i64 (rphV g : Nat)) ∧ Below w.heap.size w w' := by
  have HE : Hid (cntB (cpB g) g = rphV g) := rfl
  have HS := Lib.hid (fun k => show cntB (cpB g) (k + 1) = cntB (cpB g) k + (if cpB g k = true then 1 else 0) from rfl)
  have HL := Lib.hid (fun k => cntB_leS (cpB g) k)
  have HC : Hid (∀ k, cpB g k = decide (Nat.gcd (k + 1) g = 1)) := fun k => rfl
  have HG : Hid (∀ (u : Nat) W, (u : Int) ≤ 121 → Calls Try.prog 69 #[.int .i64 (u : Int), .int .i64 (g : Int)] W fun e w' => e = .returned (.int .i64 (Nat.gcd u g : Nat)) ∧ ∃ n, w' = W.drewN n) := fun u W h => by
    have := rGcd_any (u : Int) (g : Int) W (by unfold Mid; omega) (by unfold Mid; omega)
    rwa [show Int.gcd (u : Int) (g : Int) = Nat.gcd u g from rfl] at this
  go_enter Try.func52, Try.ntmps52
  go_wp2
  go_loopw [3, 4] (fun C I wr => ∃ t : Nat, I = .int .i64 ((t + 1 : Nat) : Int) ∧ C = .int .i64 (cntB (cpB g) t : Nat) ∧ t ≤ g ∧ Hid (Below w.heap.size w wr)) (fun _ I _ => g + 1 - (intOf I).toNat)
  case atStart => exact ⟨0, rfl, rfl, Nat.zero_le _, Below.refl _ _⟩
  case round =>
    obtain ⟨t, rfl, rfl, ht, HW⟩ := hrel
    by_cases htn : t < g
    · have hti : (((t + 1 : Nat)) : Int) ≤ (g : Int) := by omega
      have hl := HL.out t
      have hs := Lib.hid (HS.out t)
      have hcn := HC.out t
      generalize cntB (cpB g) t = c at *
      have hci : (c : Int) ≤ 120 := by omega
      obtain ⟨u, hu⟩ : ∃ u, u = t + 1 := ⟨_, rfl⟩
      rw [← hu] at hti hcn hs ⊢
      have HGu := Lib.hid (fun W => HG.out u W (by omega))
      have HU := Lib.hid hu
      clear hu
      by_cases e : Nat.gcd u g = 1
      · have hN : Hid (cntB (cpB g) u = c + 1) := by show _ = _; rw [hs.out, hcn, if_pos (decide_eq_true e)]
        rw [e] at HGu
        clear hs hcn e
        go_wp2_with (first
          | (go_at_call 69; ((with_reducible refine (HGu.out _).mono ?_); rintro e w3 ⟨rfl, n1', rfl⟩))
          | fail)
        go_roundw
        case rel => exact ⟨u, by go_num, by rw [hN.out]; go_num, by have := HU.out; omega, below_drewN HW.out _⟩
        case measure => have := HU.out; simp [intOf]; omega
      · have hne : (((Nat.gcd u g : Nat) : Int) == 1) = false := by rw [beq_eq_false_iff_ne]; omega
        have hN : Hid (cntB (cpB g) u = c) := by show _ = _; rw [hs.out, hcn, if_neg (by simpa using e)]; rfl
        clear hs hcn e
        generalize Nat.gcd u g = z at *
        go_wp2_with (first
          | (go_at_call 69; ((with_reducible refine (HGu.out _).mono ?_); rintro e w3 ⟨rfl, n1', rfl⟩))
          | fail)
        go_roundw
        case rel => exact ⟨u, by go_num, by rw [hN.out], by have := HU.out; omega, below_drewN HW.out _⟩
        case measure => have := HU.out; simp [intOf]; omega
    · obtain rfl : t = g := by omega
      have hk3 : ¬ (((t + 1 : Nat)) : Int) ≤ (t : Int) := by omega
      go_wp2
      go_ret
      exact ⟨ret_int' (by rw [HE.out]), HW.out⟩
/-- Whether p is prime, by trial. -/
def prR (p : Nat) : Nat → Bool
  | 0 => true
  | j + 1 => prR p j && decide (p % (j + 2) ≠ 0)
def primeB (p : Nat) : Bool := prR p (p - 2)
def psR (n : Nat) : Nat → Nat
  | 0 => n
  | t + 1 => if (primeB (t + 2) && decide (n % (t + 2) = 0)) = true then psR n t / (t + 2) * (t + 3) else psR n t
def symC (A p x : Nat) : Bool := decide ((x * x + (if A = 4 then 0 else x) + 1) % p = 0)
def symV (A p : Nat) : Int := if (A = 4 ∧ p = 2) ∨ (A = 3 ∧ p = 3) then 0 else if (List.range p).any (symC A p) = true then 1 else -1
def prD (A n : Nat) : Nat → Int
  | 0 => 1
  | t + 1 => if (primeB (t + 2) && decide (n % (t + 2) = 0)) = true then prD A n t * (1 + symV A (t + 2)) else prD A n t
def rfOk (n : Nat) : Bool := n == 0 || ((List.range n).all (fun t => decide (psR n t ≤ 1000) && decide (0 ≤ prD 3 n t) && decide (prD 3 n t ≤ 1000) && decide (0 ≤ prD 4 n t) && decide (prD 4 n t ≤ 1000)) && psR n (n - 1) == psV n && (n % 4 == 0 || prD 4 n (n - 1) == rtV 4 4 n) && (n % 9 == 0 || prD 3 n (n - 1) == rtV 3 9 n) && rphV n == phV n)
set_option maxRecDepth 100000 in
theorem rf_all : (List.range 121).all rfOk = true := by decide +kernel
structure RfF (n : Nat) : Prop where
  p : ∀ t, t < n → psR n t ≤ 1000
  d3 : ∀ t, t < n → 0 ≤ prD 3 n t ∧ prD 3 n t ≤ 1000
  d4 : ∀ t, t < n → 0 ≤ prD 4 n t ∧ prD 4 n t ≤ 1000
  ps : psR n (n - 1) = psV n
  e4 : n % 4 ≠ 0 → prD 4 n (n - 1) = rtV 4 4 n
  e3 : n % 9 ≠ 0 → prD 3 n (n - 1) = rtV 3 9 n
  ph : rphV n = phV n
theorem rf_of {n : Nat} (n1 : 1 ≤ n) (n2 : n ≤ 120) : RfF n := by
  have h := List.all_eq_true.1 rf_all n (List.mem_range.2 (by omega))
  unfold rfOk at h
  rw [Bool.or_eq_true] at h
  rcases h with h | h
  · simp at h; omega
  · simp only [Bool.and_eq_true, Bool.or_eq_true, beq_iff_eq, List.all_eq_true, List.mem_range, decide_eq_true_eq] at h
    obtain ⟨⟨⟨⟨h1, h2⟩, h3⟩, h4⟩, h5⟩ := h
    exact ⟨fun t ht => (h1 t ht).1.1.1.1, fun t ht => ⟨(h1 t ht).1.1.1.2, (h1 t ht).1.1.2⟩, fun t ht => ⟨(h1 t ht).1.2, (h1 t ht).2⟩, h2, fun h => h3.resolve_left h, fun h => h4.resolve_left h, h5⟩
end Go.Proofs.Ytmikhkolbkdnpaa
namespace Go.Proofs.Ytmikhkolbkdnpaa
open Go.RowKit
set_option linter.unusedVariables false
set_option linter.unusedSimpArgs false

set_option maxHeartbeats 800000 in
theorem level0_any (n : Int) (w : World) : Calls Try.prog 51 #[.int .i64 n] w fun e w' => e = .returned (.int .i64 (lvI n)) ∧ w = w' := by
  by_cases h1 : n < 1
  · rw [lv_no (.inl h1)]
    go_enter Try.func51, Try.ntmps51
    go_wp2
    go_ret
    exact ⟨rfl, rfl⟩
  by_cases h2 : 120 < n
  · rw [lv_no (.inr h2)]
    go_enter Try.func51, Try.ntmps51
    go_wp2
    go_ret
    exact ⟨rfl, rfl⟩
  · rw [lv_yes (by omega) (by omega)]
    go_enter Try.func51, Try.ntmps51
    go_wp2
    go_ret
    exact ⟨rfl, rfl⟩
set_option maxHeartbeats 3200000 in
set_option maxRecDepth 1000000 in
theorem rcount0_any (n : Nat) (w : World) (n1 : 1 ≤ n) (n2 : (n : Int) ≤ 120) :
    Calls Try.prog 44 #[.int .i64 (n : Int)] w fun e w' => e = .returned (.tuple #[.int .i64 (cuV n : Nat), .int .i64 0]) ∧ Below w.heap.size w w' := by
  have HLv := Lib.hid (fun W => level0_any (n : Int) W)
  rw [lv_yes (by omega) n2] at HLv
  have HD := Lib.hid (fun W => rdiv_any n W n1 n2)
  have hDl := (dvN_bd n1 (by omega)).1
  have HMem := Lib.hid (dvN_bd n1 (by omega)).2
  have HP : Hid (cuF n ((dvN n).take (dvN n).length) 0 = cuV n) := by show _ = _; rw [List.take_length]; rfl
  have HPh : Hid (∀ (g : Nat), 1 ≤ g → (g : Int) ≤ 120 → ∀ W, Calls Try.prog 52 #[.int .i64 (g : Int)] W fun e w' => e = .returned (.int .i64 (phV g : Nat)) ∧ Below W.heap.size W w') := fun g h1 h2 W => by
    have := rphi_any g W h1 h2
    rwa [(rf_of h1 (by omega)).ph] at this
  have HGc : Hid (∀ (a b : Nat) W, (a : Int) ≤ 120 → (b : Int) ≤ 120 → Calls Try.prog 69 #[.int .i64 (a : Int), .int .i64 (b : Int)] W fun e w' => e = .returned (.int .i64 (Nat.gcd a b : Nat)) ∧ ∃ n, w' = W.drewN n) := fun a b W h1 h2 => by
    have := rGcd_any (a : Int) (b : Int) W (by unfold Mid; omega) (by unfold Mid; omega)
    rwa [show Int.gcd (a : Int) (b : Int) = Nat.gcd a b from rfl] at this
  generalize dvN n = D at *
  go_enter Try.func44, Try.ntmps44
  go_wp2_with (first
    | (go_at_call 51; ((with_reducible refine (HLv.out _).mono ?_); rintro e w' ⟨rfl, rfl⟩))
    | (go_at_call 53; ((with_reducible refine (HD.out _).mono ?_); rintro e w2 ⟨la, lc, rfl, hv⟩; have HO := Lib.hid hv.own; have HB2 := Lib.hid hv.bel; clear hv))
    | fail)
  clear HLv HD
  go_loopw [5, 7] (fun X I wr => ∃ k x : Nat, I = .int .i64 k ∧ X = .int .i64 x ∧ k ≤ D.length ∧ x ≤ 120 * k ∧ Hid (cuF n (D.take k) 0 = x) ∧ Hid (Below w2.heap.size w2 wr)) (fun _ I _ => D.length - (intOf I).toNat)
  case atStart => exact ⟨0, 0, rfl, rfl, Nat.zero_le _, Nat.le_refl _, rfl, Below.refl _ _⟩
  case round =>
    obtain ⟨k, x, rfl, rfl, hk, hx, HX, HW⟩ := hrel
    by_cases hkl : k < D.length
    · have hkli : (k : Int) < (D.length : Int) := by omega
      obtain ⟨g, rfl, hg0⟩ := own_some HO.out (by omega)
      have hg := (HO.out.lt g rfl).2
      have hc0 := HO.out.cells (g := g) rfl k (.int .i64 (D[k] : Nat)) (by simp [zs, iz, hkl])
      rw [addr_add] at hc0
      obtain ⟨m1, m2, m3⟩ := HMem.out D[k] (List.getElem_mem _)
      have x1 : wr.cell? ⟨g, k, none⟩ = some (.int .i64 (D[k] : Nat)) := (HW.out.cell (p := ⟨g, k, none⟩) hg).trans hc0
      have hgw : g < wr.heap.size := Nat.lt_of_lt_of_le hg HW.out.size
      have HN : Hid (cuF n (D.take (k + 1)) 0 = x + phV (Nat.gcd D[k] (n / D[k]))) := by
        show _ = _
        rw [List.take_add_one, List.getElem?_eq_getElem hkl, Option.toList_some, cuF_append, HX.out]; rfl
      clear hc0 HX m2
      generalize D[k] = d at *
      have hd : (n : Int) / (d : Int) = ((n / d : Nat) : Int) := (Int.natCast_ediv _ _).symm
      have htd : Int.tdiv (n : Int) (d : Int) = ((n / d : Nat) : Int) := (Int.ofNat_tdiv _ _).symm
      have hq2 : n / d ≤ 120 := Nat.le_trans (Nat.div_le_self _ _) (by omega)
      have HG := Lib.hid (fun W => HGc.out d (n / d) W (by omega) (by omega))
      have g1 : 1 ≤ Nat.gcd d (n / d) := Nat.gcd_pos_of_pos_left _ (by omega)
      have g2 : Nat.gcd d (n / d) ≤ 120 := Nat.le_trans (Nat.gcd_le_left _ (by omega)) m3
      have HF := Lib.hid (HPh.out (Nat.gcd d (n / d)) g1 (by omega))
      have hf := phV_le (Nat.gcd d (n / d))
      generalize phV (Nat.gcd d (n / d)) = f at *
      generalize Nat.gcd d (n / d) = u at *
      generalize n / d = q at *
      have hd1 : 1 ≤ (d : Int) := by omega
      have hd2 : (d : Int) ≤ 120 := by omega
      have hd0 : ((d : Int) == 0) = false := by rw [beq_eq_false_iff_ne]; omega
      have hd01 : ¬ ((d : Int) = 0) := by omega
      have hd02 : ¬ (d = 0) := by omega
      have hwq : IntKind.i64.wrap (q : Int) = (q : Int) := IntWalk.i64_in _ (by omega)
      have hxf : IntKind.i64.wrap ((x : Int) + (f : Int)) = (x : Int) + (f : Int) := IntWalk.i64_in _ (by omega)
      have HWd : Hid (Below w2.heap.size w2 wr.drew) := HW.out.drew
      have HKc : Hid (∀ W, Below wr.heap.size wr W → W.cell? ⟨g, k, none⟩ = some (.int .i64 (d : Nat))) := fun W hb => (hb.cell (p := ⟨g, k, none⟩) hgw).trans x1
      have D0 : Hid (Below wr.heap.size wr wr.drew) := Below.drew (Below.refl _ _)
      go_upto_region 9 with fail
      go_region_held3 (fun w' => w'.cell? ⟨g, k, none⟩ = some (.int .i64 (d : Nat)))
        (with_reducible first | exact HKc.out _ D2.out | exact HKc.out _ (below_drewN (Below.refl _ wr) _) | exact HKc.out _ D0.out | fail)
        (first
          | (go_at_call 69; ((with_reducible refine (HG.out _).mono ?_); rintro e w3 ⟨rfl, n1', rfl⟩; have D1 : Hid (Below wr.heap.size wr (wr.drewN (1 + n1'))) := below_drewN (Below.refl _ wr) _))
          | (go_at_call 52; ((with_reducible refine (HF.out _).mono ?_); rintro e w4 ⟨rfl, hb⟩; have D2 := Lib.hid (bel0 D1.out hb); clear hb))
          | fail)
      clear hxf hwq htd hd01 hd02
      go_wp2
      go_roundw
      case rel => exact ⟨k + 1, x + f, by go_num, by go_num, by omega, by omega, HN.out, HW.out.trans (D2.out.mono HW.out.size)⟩
      case measure => simp [intOf]; omega
    · obtain rfl : k = D.length := by omega
      have hk3 : ¬ (D.length : Int) < (D.length : Int) := by omega
      have HE : Hid ((x : Int) = (cuV n : Nat)) := by show _ = _; rw [← HP.out, HX.out]
      go_wp2
      refine bodyPost_ret (v := .tuple #[.int .i64 (x : Int), .int .i64 0]) ?_ rfl ⟨by rw [HE.out], HB2.out.trans (HW.out.mono HB2.out.size)⟩
      simp [results, Try.results44, go_sem, *]
end Go.Proofs.Ytmikhkolbkdnpaa
namespace Go.Proofs.Ytmikhkolbkdnpaa
open Go.RowKit
set_option linter.unusedVariables false
set_option linter.unusedSimpArgs false

set_option maxHeartbeats 3200000 in
set_option maxRecDepth 1000000 in
theorem rpsi_any (n : Nat) (w : World) (n1 : 1 ≤ n) (n2 : (n : Int) ≤ 120) :
    Calls Try.prog 45 #[.int .i64 (n : Int)] w fun e w' => e = .returned (.int .i64 (psV n : Nat)) ∧ Below w.heap.size w w' := by
  have hrf := rf_of n1 (show n ≤ 120 by omega)
  have HE := Lib.hid hrf.ps
  have HB := Lib.hid hrf.p
  clear hrf
  have H0 : Hid (psR n 0 = n) := rfl
  have HS := Lib.hid (fun t => show psR n (t + 1) = (if (primeB (t + 2) && decide (n % (t + 2) = 0)) = true then psR n t / (t + 2) * (t + 3) else psR n t) from rfl)
  go_enter Try.func45, Try.ntmps45
  go_wp2
  go_loopw [3, 4, 5, 6] (fun X P _ _ wr => ∃ t : Nat, P = .int .i64 ((t + 2 : Nat) : Int) ∧ X = .int .i64 (psR n t : Nat) ∧ t < n ∧ wr = w) (fun _ P _ _ _ => n + 1 - (intOf P).toNat)
  case atStart => exact ⟨0, rfl, by rw [H0.out], by omega, rfl⟩
  case round =>
    obtain ⟨t, rfl, rfl, ht, rfl⟩ := hrel
    by_cases htn : t + 2 ≤ n
    · have hti : (((t + 2 : Nat)) : Int) ≤ (n : Int) := by omega
      have hb := HB.out t ht
      have hb' := HB.out (t + 1) (by omega)
      have hs := HS.out t
      obtain ⟨p, hp⟩ : ∃ p, p = t + 2 := ⟨_, rfl⟩
      have HP2 : Hid (primeB p = prR p (p - 2)) := rfl
      have HR0 : Hid (prR p 0 = true) := rfl
      have HRS := Lib.hid (fun j => show prR p (j + 1) = (prR p j && decide (p % (j + 2) ≠ 0)) from rfl)
      rw [← hp] at hti hs ⊢
      rw [show t + 3 = p + 1 by omega] at hs
      rw [hs] at hb'
      have Hs := Lib.hid hs
      have Hp := Lib.hid hp
      have p2 : 2 ≤ (p : Int) := by omega
      have p3 : (p : Int) ≤ 120 := by omega
      clear hs hp
      generalize psR n t = x at *
      have hxi : (x : Int) ≤ 1000 := by omega
      go_wp2
      go_loopw [5, 6] (fun B Q wi => ∃ j : Nat, Q = .int .i64 ((j + 2 : Nat) : Int) ∧ B = .bool (prR p j) ∧ j + 2 ≤ p ∧ wi = wr) (fun _ Q _ => p - (intOf Q).toNat)
      case atStart => exact ⟨0, rfl, by rw [HR0.out], by have := Hp.out; omega, rfl⟩
      case round =>
        obtain ⟨j, rfl, rfl, hj, rfl⟩ := hrel
        by_cases hjp : j + 2 < p
        · have hji : (((j + 2 : Nat)) : Int) < (p : Int) := by omega
          have hR := HRS.out j
          have hmod : (p : Int) % ((j + 2 : Nat) : Int) = ((p % (j + 2) : Nat) : Int) := (Int.natCast_emod p (j + 2)).symm
          obtain ⟨q, hq⟩ : ∃ q, q = j + 2 := ⟨_, rfl⟩
          rw [← hq] at hji hR hmod hj ⊢
          have HQ := Lib.hid hq
          have hq1 : 2 ≤ (q : Int) := by omega
          have hq0 : ((q : Int) == 0) = false := by rw [beq_eq_false_iff_ne]; omega
          clear hq hjp hj
          cases hB : prR p j with
          | false =>
            rw [hB] at hR
            have hN : Hid (prR p (j + 1) = false) := by show _ = _; rw [hR]; rfl
            clear hR hB hmod
            go_wp2
            go_roundw
            case rel => exact ⟨j + 1, by have := HQ.out; go_num, by first | (rw [hN.out]; done) | (rw [hN.out]; exact congrArg Value.bool (by simp only [bne, hez]; rfl)), by have := HQ.out; omega, trivial⟩
            case measure => have := HQ.out; simp [intOf]; omega
          | true =>
            rw [hB] at hR
            by_cases e : p % q = 0
            · have hN : Hid (prR p (j + 1) = false) := by show _ = _; rw [hR, e]; rfl
              rw [e] at hmod
              have hez : ((p : Int) % (q : Int) == 0) = true := by rw [hmod]; rfl
              clear hR hB hmod e
              go_wp2
              go_roundw
              case rel => exact ⟨j + 1, by have := HQ.out; go_num, by first | (rw [hN.out]; done) | (rw [hN.out]; exact congrArg Value.bool (by simp only [bne, hez]; rfl)), by have := HQ.out; omega, trivial⟩
              case measure => have := HQ.out; simp [intOf]; omega
            · have hN : Hid (prR p (j + 1) = true) := by show _ = _; rw [hR]; simpa using e
              have hez : ((p : Int) % (q : Int) == 0) = false := by rw [hmod, beq_eq_false_iff_ne]; omega
              clear hR hB hmod e
              go_wp2
              go_roundw
              case rel => exact ⟨j + 1, by have := HQ.out; go_num, by first | (rw [hN.out]; done) | (rw [hN.out]; exact congrArg Value.bool (by simp only [bne, hez]; rfl)), by have := HQ.out; omega, trivial⟩
              case measure => have := HQ.out; simp [intOf]; omega
        · have hjp2 : j = p - 2 := by omega
          have hk3 : ¬ (((j + 2 : Nat)) : Int) < (p : Int) := by omega
          subst hjp2
          rw [← HP2.out]
          have HPj := Lib.hid hj
          have HPl : Hid ((p - 2 + 2 : Nat) = p) := by show _ = _; omega
          rw [HPl.out] at hk3 ⊢
          clear hjp hj
          have hmodn : (n : Int) % (p : Int) = ((n % p : Nat) : Int) := (Int.natCast_emod n p).symm
          have hp0 : ((p : Int) == 0) = false := by rw [beq_eq_false_iff_ne]; omega
          cases hPr : primeB p with
          | false =>
            have hN : Hid (psR n (t + 1) = x) := by show _ = _; rw [Hs.out, hPr]; rfl
            clear hPr hmodn hb'
            go_wp2
            go_roundw
            case rel => exact ⟨t + 1, by have := Hp.out; go_num, by rw [hN.out], by have := Hp.out; omega, trivial⟩
            case measure => have := Hp.out; simp [intOf]; omega
          | true =>
            by_cases e : n % p = 0
            · have hN : Hid (psR n (t + 1) = x / p * (p + 1)) := by show _ = _; rw [Hs.out, hPr, e]; rfl
              have hb2 : x / p * (p + 1) ≤ 1000 := by have := HB.out (t + 1) (by have := Hp.out; omega); rw [hN.out] at this; exact this
              rw [e] at hmodn
              have hez : ((n : Int) % (p : Int) == 0) = true := by rw [hmodn]; rfl
              clear hPr hmodn hb' e
              have hdv : (x : Int) / (p : Int) = ((x / p : Nat) : Int) := (Int.natCast_ediv _ _).symm
              have hml : ((x / p : Nat) : Int) * ((p : Int) + 1) = ((x / p * (p + 1) : Nat) : Int) := by simp
              have hd3 : x / p ≤ 1000 := by have := Nat.div_le_self x p; omega
              generalize x / p * (p + 1) = z at *
              generalize x / p = y at *
              have hd4 : (y : Int) ≤ 1000 := by omega
              have hz4 : (z : Int) ≤ 1000 := by omega
              clear hb2 hd3
              go_wp2
              go_roundw
              case rel => exact ⟨t + 1, by have := Hp.out; go_num, by rw [hN.out], by have := Hp.out; omega, trivial⟩
              case measure => have := Hp.out; simp [intOf]; omega
            · have hN : Hid (psR n (t + 1) = x) := by show _ = _; rw [Hs.out, hPr, if_neg (by simpa using e)]
              have hez : ((n : Int) % (p : Int) == 0) = false := by rw [hmodn, beq_eq_false_iff_ne]; omega
              clear hPr hmodn hb' e
              go_wp2
              go_roundw
              case rel => exact ⟨t + 1, by have := Hp.out; go_num, by rw [hN.out], by have := Hp.out; omega, trivial⟩
              case measure => have := Hp.out; simp [intOf]; omega
    · have HT : Hid (psR n t = psV n) := by show _ = _; rw [← HE.out, show n - 1 = t by omega]
      have hk3 : ¬ (((t + 2 : Nat)) : Int) ≤ (n : Int) := by omega
      rw [HT.out]
      generalize t + 2 = u at *
      go_wp2
      go_ret
      exact ⟨rfl, Below.refl _ _⟩
end Go.Proofs.Ytmikhkolbkdnpaa
namespace Go.Proofs.Ytmikhkolbkdnpaa
open Go.RowKit
set_option linter.unusedVariables false
set_option linter.unusedSimpArgs false

theorem symV4_sp : symV 4 2 = 0 := rfl
theorem symV4_yes {p t : Nat} (hp : p ≠ 2) (ht : t < p) (h : symC 4 p t = true) : symV 4 p = 1 := by
  unfold symV
  rw [if_neg (by omega), if_pos]
  exact List.any_eq_true.2 ⟨t, List.mem_range.2 ht, h⟩
theorem symV4_no {p : Nat} (hp : p ≠ 2) (h : ∀ j, j < p → symC 4 p j = false) : symV 4 p = -1 := by
  unfold symV
  rw [if_neg (by omega), if_neg]
  intro hc
  obtain ⟨j, hj, h1⟩ := List.any_eq_true.1 hc
  rw [h j (List.mem_range.1 hj)] at h1
  cases h1
set_option maxHeartbeats 3200000 in
set_option maxRecDepth 1000000 in
theorem rsym4_any (p : Nat) (w : World) (p1 : 2 ≤ p) (p2 : (p : Int) ≤ 120) :
    Calls Try.prog 70 #[.int .i64 (-4), .int .i64 (p : Int)] w fun e w' => e = .returned (.int .i64 (symV 4 p)) ∧ w = w' := by
  by_cases hsp : p = 2
  · subst hsp
    rw [symV4_sp]
    go_enter Try.func70, Try.ntmps70
    go_wp2
    go_ret
    exact ⟨rfl, rfl⟩
  · have HY := Lib.hid (fun t (ht : t < p) h => symV4_yes (t := t) hsp ht h)
    have HN := Lib.hid (symV4_no hsp)
    have HC := Lib.hid (fun t => show symC 4 p t = decide ((t * t + 1) % p = 0) by unfold symC; simp)
    have hpi : ((p : Int) == 2) = false := by rw [beq_eq_false_iff_ne]; omega
    clear hsp
    go_enter Try.func70, Try.ntmps70
    go_wp2
    go_loopw [5] (fun X wr => ∃ t : Nat, X = .int .i64 (t : Nat) ∧ t ≤ p ∧ Hid (∀ j, j < t → symC 4 p j = false) ∧ w = wr) (fun X _ => p - (intOf X).toNat)
    case atStart => exact ⟨0, rfl, Nat.zero_le _, fun _ h => by omega, rfl⟩
    case round =>
      obtain ⟨t, rfl, ht, HZ, rfl⟩ := hrel
      by_cases htp : t < p
      · have hti : (t : Int) < (p : Int) := by omega
        have hyt := Lib.hid (HY.out t htp)
        have hct := HC.out t
        have hmul : (t : Int) * (t : Int) = ((t * t : Nat) : Int) := by simp
        have hsq : t * t ≤ 120 * 120 := Nat.mul_le_mul (by omega) (by omega)
        generalize t * t = s at *
        have hsi : (s : Int) ≤ 14400 := by omega
        have hmod : ((s : Int) + 1) % (p : Int) = ((s + 1) % p : Nat) := by rw [Int.natCast_emod]; simp
        generalize (s + 1) % p = r at *
        have hp0 : ((p : Int) == 0) = false := by rw [beq_eq_false_iff_ne]; omega
        clear hsq
        by_cases e : r = 0
        · subst e
          have hval : Hid (symV 4 p = 1) := hyt.out (by rw [hct]; rfl)
          clear hct hyt
          go_wp2
          go_ret
          exact ⟨by rw [hval.out]; rfl, rfl⟩
        · have hr0 : ((r : Int) == 0) = false := by rw [beq_eq_false_iff_ne]; omega
          have hz : symC 4 p t = false := by rw [hct]; simpa using e
          have HZ2 : Hid (∀ j, j < t + 1 → symC 4 p j = false) := fun j hj => by
            by_cases h : j = t
            · rw [h]; exact hz
            · exact HZ.out j (by omega)
          clear hct hyt hz e
          go_wp2
          go_roundw
          case rel => exact ⟨t + 1, by go_num, by omega, HZ2, trivial⟩
          case measure => simp [intOf]; omega
      · obtain rfl : t = p := by omega
        have hk3 : ¬ (t : Int) < (t : Int) := by omega
        have hval : Hid (symV 4 t = -1) := HN.out HZ.out
        go_wp2
        go_ret
        exact ⟨by rw [hval.out]; rfl, rfl⟩
theorem symV3_sp : symV 3 3 = 0 := rfl
theorem symV3_yes {p t : Nat} (hp : p ≠ 3) (ht : t < p) (h : symC 3 p t = true) : symV 3 p = 1 := by
  unfold symV
  rw [if_neg (by omega), if_pos]
  exact List.any_eq_true.2 ⟨t, List.mem_range.2 ht, h⟩
theorem symV3_no {p : Nat} (hp : p ≠ 3) (h : ∀ j, j < p → symC 3 p j = false) : symV 3 p = -1 := by
  unfold symV
  rw [if_neg (by omega), if_neg]
  intro hc
  obtain ⟨j, hj, h1⟩ := List.any_eq_true.1 hc
  rw [h j (List.mem_range.1 hj)] at h1
  cases h1
set_option maxHeartbeats 3200000 in
set_option maxRecDepth 1000000 in
theorem rsym3_any (p : Nat) (w : World) (p1 : 2 ≤ p) (p2 : (p : Int) ≤ 120) :
    Calls Try.prog 70 #[.int .i64 (-3), .int .i64 (p : Int)] w fun e w' => e = .returned (.int .i64 (symV 3 p)) ∧ w = w' := by
  by_cases hsp : p = 3
  · subst hsp
    rw [symV3_sp]
    go_enter Try.func70, Try.ntmps70
    go_wp2
    go_ret
    exact ⟨rfl, rfl⟩
  · have HY := Lib.hid (fun t (ht : t < p) h => symV3_yes (t := t) hsp ht h)
    have HN := Lib.hid (symV3_no hsp)
    have HC := Lib.hid (fun t => show symC 3 p t = decide ((t * t + t + 1) % p = 0) by unfold symC; simp)
    have hpi : ((p : Int) == 3) = false := by rw [beq_eq_false_iff_ne]; omega
    clear hsp
    go_enter Try.func70, Try.ntmps70
    go_wp2
    go_loopw [5] (fun X wr => ∃ t : Nat, X = .int .i64 (t : Nat) ∧ t ≤ p ∧ Hid (∀ j, j < t → symC 3 p j = false) ∧ w = wr) (fun X _ => p - (intOf X).toNat)
    case atStart => exact ⟨0, rfl, Nat.zero_le _, fun _ h => by omega, rfl⟩
    case round =>
      obtain ⟨t, rfl, ht, HZ, rfl⟩ := hrel
      by_cases htp : t < p
      · have hti : (t : Int) < (p : Int) := by omega
        have hyt := Lib.hid (HY.out t htp)
        have hct := HC.out t
        have hmul : (t : Int) * (t : Int) = ((t * t : Nat) : Int) := by simp
        have hsq : t * t ≤ 120 * 120 := Nat.mul_le_mul (by omega) (by omega)
        generalize t * t = s at *
        have hsi : (s : Int) ≤ 14400 := by omega
        have hmod : ((s : Int) + (t : Int) + 1) % (p : Int) = ((s + t + 1) % p : Nat) := by rw [Int.natCast_emod]; simp
        generalize (s + t + 1) % p = r at *
        have hp0 : ((p : Int) == 0) = false := by rw [beq_eq_false_iff_ne]; omega
        clear hsq
        by_cases e : r = 0
        · subst e
          have hval : Hid (symV 3 p = 1) := hyt.out (by rw [hct]; rfl)
          clear hct hyt
          go_wp2
          go_ret
          exact ⟨by rw [hval.out]; rfl, rfl⟩
        · have hr0 : ((r : Int) == 0) = false := by rw [beq_eq_false_iff_ne]; omega
          have hz : symC 3 p t = false := by rw [hct]; simpa using e
          have HZ2 : Hid (∀ j, j < t + 1 → symC 3 p j = false) := fun j hj => by
            by_cases h : j = t
            · rw [h]; exact hz
            · exact HZ.out j (by omega)
          clear hct hyt hz e
          go_wp2
          go_roundw
          case rel => exact ⟨t + 1, by go_num, by omega, HZ2, trivial⟩
          case measure => simp [intOf]; omega
      · obtain rfl : t = p := by omega
        have hk3 : ¬ (t : Int) < (t : Int) := by omega
        have hval : Hid (symV 3 t = -1) := HN.out HZ.out
        go_wp2
        go_ret
        exact ⟨by rw [hval.out]; rfl, rfl⟩
end Go.Proofs.Ytmikhkolbkdnpaa
namespace Go.Proofs.Ytmikhkolbkdnpaa
open Go.RowKit
set_option linter.unusedVariables false
set_option linter.unusedSimpArgs false

theorem symV_bd (A p : Nat) : -1 ≤ symV A p ∧ symV A p ≤ 1 := by
  unfold symV
  split
  · omega
  · split <;> omega
set_option maxHeartbeats 3200000 in
set_option maxRecDepth 1000000 in
theorem rprod_any (A n : Nat) (d : Int) (w : World) (n1 : 1 ≤ n) (n2 : (n : Int) ≤ 120)
    (hb : ∀ t, t < n → 0 ≤ prD A n t ∧ prD A n t ≤ 1000)
    (hsy : ∀ (p : Nat) (w : World), 2 ≤ p → (p : Int) ≤ 120 → Calls Try.prog 70 #[.int .i64 d, .int .i64 (p : Int)] w fun e w' => e = .returned (.int .i64 (symV A p)) ∧ w = w') :
    Calls Try.prog 46 #[.int .i64 d, .int .i64 (n : Int)] w fun e w' => e = .returned (.int .i64 (prD A n (n - 1))) ∧ Below w.heap.size w w' := by
  have HB := Lib.hid hb
  have HSy := Lib.hid hsy
  clear hb hsy
  have H0 : Hid (prD A n 0 = 1) := rfl
  have HS := Lib.hid (fun t => show prD A n (t + 1) = (if (primeB (t + 2) && decide (n % (t + 2) = 0)) = true then prD A n t * (1 + symV A (t + 2)) else prD A n t) from rfl)
  have HYb := Lib.hid (fun p => symV_bd A p)
  go_enter Try.func46, Try.ntmps46
  go_wp2
  go_loopw [5, 6, 7, 8] (fun X P _ _ wr => ∃ t : Nat, P = .int .i64 ((t + 2 : Nat) : Int) ∧ X = .int .i64 (prD A n t) ∧ t < n ∧ Hid (Below w.heap.size w wr)) (fun _ P _ _ _ => n + 1 - (intOf P).toNat)
  case atStart => exact ⟨0, rfl, by rw [H0.out], by omega, Below.refl _ _⟩
  case round =>
    obtain ⟨t, rfl, rfl, ht, HW⟩ := hrel
    by_cases htn : t + 2 ≤ n
    · have hti : (((t + 2 : Nat)) : Int) ≤ (n : Int) := by omega
      have hb := HB.out t ht
      have hb' := HB.out (t + 1) (by omega)
      have hs := HS.out t
      obtain ⟨p, hp⟩ : ∃ p, p = t + 2 := ⟨_, rfl⟩
      have HP2 : Hid (primeB p = prR p (p - 2)) := rfl
      have HR0 : Hid (prR p 0 = true) := rfl
      have HRS := Lib.hid (fun j => show prR p (j + 1) = (prR p j && decide (p % (j + 2) ≠ 0)) from rfl)
      rw [← hp] at hti hs ⊢
      rw [hs] at hb'
      have Hs := Lib.hid hs
      have Hp := Lib.hid hp
      have p2 : 2 ≤ (p : Int) := by omega
      have p3 : (p : Int) ≤ 120 := by omega
      clear hs hp
      generalize prD A n t = x at *
      go_wp2
      go_loopw [7, 8] (fun B Q wi => ∃ j : Nat, Q = .int .i64 ((j + 2 : Nat) : Int) ∧ B = .bool (prR p j) ∧ j + 2 ≤ p ∧ wi = wr) (fun _ Q _ => p - (intOf Q).toNat)
      case atStart => exact ⟨0, rfl, by rw [HR0.out], by have := Hp.out; omega, rfl⟩
      case round =>
        obtain ⟨j, rfl, rfl, hj, rfl⟩ := hrel
        by_cases hjp : j + 2 < p
        · have hji : (((j + 2 : Nat)) : Int) < (p : Int) := by omega
          have hR := HRS.out j
          have hmod : (p : Int) % ((j + 2 : Nat) : Int) = ((p % (j + 2) : Nat) : Int) := (Int.natCast_emod p (j + 2)).symm
          obtain ⟨q, hq⟩ : ∃ q, q = j + 2 := ⟨_, rfl⟩
          rw [← hq] at hji hR hmod hj ⊢
          have HQ := Lib.hid hq
          have hq1 : 2 ≤ (q : Int) := by omega
          have hq0 : ((q : Int) == 0) = false := by rw [beq_eq_false_iff_ne]; omega
          clear hq hjp hj
          cases hB : prR p j with
          | false =>
            rw [hB] at hR
            have hN : Hid (prR p (j + 1) = false) := by show _ = _; rw [hR]; rfl
            clear hR hB hmod
            go_wp2
            go_roundw
            case rel => exact ⟨j + 1, by have := HQ.out; go_num, by first | (rw [hN.out]; done) | (rw [hN.out]; exact congrArg Value.bool (by simp only [bne, hez]; rfl)), by have := HQ.out; omega, trivial⟩
            case measure => have := HQ.out; simp [intOf]; omega
          | true =>
            rw [hB] at hR
            by_cases e : p % q = 0
            · have hN : Hid (prR p (j + 1) = false) := by show _ = _; rw [hR, e]; rfl
              rw [e] at hmod
              have hez : ((p : Int) % (q : Int) == 0) = true := by rw [hmod]; rfl
              clear hR hB hmod e
              go_wp2
              go_roundw
              case rel => exact ⟨j + 1, by have := HQ.out; go_num, by first | (rw [hN.out]; done) | (rw [hN.out]; exact congrArg Value.bool (by simp only [bne, hez]; rfl)), by have := HQ.out; omega, trivial⟩
              case measure => have := HQ.out; simp [intOf]; omega
            · have hN : Hid (prR p (j + 1) = true) := by show _ = _; rw [hR]; simpa using e
              have hez : ((p : Int) % (q : Int) == 0) = false := by rw [hmod, beq_eq_false_iff_ne]; omega
              clear hR hB hmod e
              go_wp2
              go_roundw
              case rel => exact ⟨j + 1, by have := HQ.out; go_num, by first | (rw [hN.out]; done) | (rw [hN.out]; exact congrArg Value.bool (by simp only [bne, hez]; rfl)), by have := HQ.out; omega, trivial⟩
              case measure => have := HQ.out; simp [intOf]; omega
        · have hjp2 : j = p - 2 := by omega
          have hk3 : ¬ (((j + 2 : Nat)) : Int) < (p : Int) := by omega
          subst hjp2
          rw [← HP2.out]
          have HPj := Lib.hid hj
          have HPl : Hid ((p - 2 + 2 : Nat) = p) := by show _ = _; omega
          rw [HPl.out] at hk3 ⊢
          clear hjp hj
          have hmodn : (n : Int) % (p : Int) = ((n % p : Nat) : Int) := (Int.natCast_emod n p).symm
          have hp0 : ((p : Int) == 0) = false := by rw [beq_eq_false_iff_ne]; omega
          cases hPr : primeB p with
          | false =>
            have hN : Hid (prD A n (t + 1) = x) := by show _ = _; rw [Hs.out, hPr]; rfl
            clear hPr hmodn hb'
            go_wp2
            go_roundw
            case rel => exact ⟨t + 1, by have := Hp.out; go_num, by rw [hN.out], by have := Hp.out; omega, by first | exact HW | exact HW.out.drew | exact below_drewN HW.out _⟩
            case measure => have := Hp.out; simp [intOf]; omega
          | true =>
            by_cases e : n % p = 0
            · have hN : Hid (prD A n (t + 1) = x * (1 + symV A p)) := by show _ = _; rw [Hs.out, hPr, e]; rfl
              have hb2 := HB.out (t + 1) (by have := Hp.out; omega)
              rw [hN.out] at hb2
              have hyb := HYb.out p
              rw [e] at hmodn
              have hez : ((n : Int) % (p : Int) == 0) = true := by rw [hmodn]; rfl
              clear hPr hmodn hb' e
              have HC := Lib.hid (fun W => HSy.out p W (by omega) p3)
              generalize symV A p = y at *
              have hml : x * (1 + y) = x * (1 + y) := rfl
              generalize hz : x * (1 + y) = z at *
              have HZ := Lib.hid hz
              obtain ⟨z1, z2⟩ := hb2
              obtain ⟨y1, y2⟩ := hyb
              have hy1 : IntKind.i64.wrap (1 + y) = 1 + y := IntWalk.i64_in _ (by omega)
              clear hml
              go_wp2_with (first
                | (go_at_call 70; ((with_reducible refine (HC.out _).mono ?_); rintro e w' ⟨rfl, rfl⟩))
                | fail)
              go_roundw
              case rel => exact ⟨t + 1, by have := Hp.out; go_num, by rw [hN.out], by have := Hp.out; omega, by first | exact HW | exact HW.out.drew | exact below_drewN HW.out _⟩
              case measure => have := Hp.out; simp [intOf]; omega
            · have hN : Hid (prD A n (t + 1) = x) := by show _ = _; rw [Hs.out, hPr, if_neg (by simpa using e)]
              have hez : ((n : Int) % (p : Int) == 0) = false := by rw [hmodn, beq_eq_false_iff_ne]; omega
              clear hPr hmodn hb' e
              go_wp2
              go_roundw
              case rel => exact ⟨t + 1, by have := Hp.out; go_num, by rw [hN.out], by have := Hp.out; omega, by first | exact HW | exact HW.out.drew | exact below_drewN HW.out _⟩
              case measure => have := Hp.out; simp [intOf]; omega
    · have HT : Hid (prD A n t = prD A n (n - 1)) := by show _ = _; rw [show n - 1 = t by omega]
      have hk3 : ¬ (((t + 2 : Nat)) : Int) ≤ (n : Int) := by omega
      rw [HT.out]
      generalize t + 2 = u at *
      go_wp2
      go_ret
      exact ⟨rfl, HW.out⟩
end Go.Proofs.Ytmikhkolbkdnpaa
namespace Go.Proofs.Ytmikhkolbkdnpaa
open Go.RowKit
set_option linter.unusedVariables false
set_option linter.unusedSimpArgs false

set_option maxHeartbeats 800000 in
theorem rcount0_bad (n : Int) (w : World) (hn : n < 1 ∨ 120 < n) :
    Calls Try.prog 44 #[.int .i64 n] w fun e w' => e = .returned (.tuple #[.int .i64 0, .int .i64 2]) ∧ Below w.heap.size w w' := by
  have HLv := Lib.hid (fun W => level0_any n W)
  rw [lv_no hn] at HLv
  clear hn
  go_enter Try.func44, Try.ntmps44
  go_wp2_with (first
    | (go_at_call 51; ((with_reducible refine (HLv.out _).mono ?_); rintro e w' ⟨rfl, rfl⟩))
    | fail)
  refine bodyPost_ret (v := .tuple #[.int .i64 0, .int .i64 2]) ?_ rfl ⟨rfl, Below.refl _ _⟩
  simp [results, Try.results44, go_sem]
set_option maxHeartbeats 3200000 in
set_option maxRecDepth 1000000 in
theorem rformula0_bad (n : Int) (w : World) (hn : n < 1 ∨ 120 < n) :
    Calls Try.prog 18 #[.int .i64 n] w fun e w' => e = .returned (.tuple #[.agg #[.int .i64 0, .int .i64 0, .int .i64 0, .int .i64 0, .int .i64 0, .int .i64 0, .bool false], .int .i64 2]) ∧ Below w.heap.size w w' := by
  have HCu := Lib.hid (fun W => rcount0_bad n W hn)
  have T0 : Hid ((w.alloc (.cells #[.int .i64 0, .int .i64 0, .int .i64 0, .int .i64 0, .int .i64 0, .int .i64 0, .bool false] 27)).heap[w.heap.size]? = some (.cells #[.int .i64 0, .int .i64 0, .int .i64 0, .int .i64 0, .int .i64 0, .int .i64 0, .bool false] 27 (0, 0))) := heap_alloc_new w _
  have HB0 : Hid (Below w.heap.size w (w.alloc (.cells #[.int .i64 0, .int .i64 0, .int .i64 0, .int .i64 0, .int .i64 0, .int .i64 0, .bool false] 27))) := below1 w _
  clear hn
  go_enter Try.func18, Try.ntmps18
  go_wp2_with (first
    | (go_at_call 44; ((with_reducible refine (HCu.out _).mono ?_); rintro e w1 ⟨rfl, hb⟩; have HB1 := Lib.hid (bel0 HB0.out hb); have T1 := Lib.hid (block_below T0.out hb); obtain ⟨⟨t0, t1, t2, t3, t4, t5, t6⟩, _⟩ := seven_of_block T1.out; clear hb))
    | fail)
  obtain ⟨⟨s0, s1, s2, s3, s4, s5, s6⟩, _⟩ := seven_of_block (seven_set T1.out (.int .i64 0) (.int .i64 0) (.int .i64 0) (.int .i64 0) (.int .i64 0) (.int .i64 0) (.bool false))
  refine bodyPost_ret (v := .tuple #[.agg #[.int .i64 0, .int .i64 0, .int .i64 0, .int .i64 0, .int .i64 0, .int .i64 0, .bool false], .int .i64 2]) ?_ rfl ⟨rfl, seven_bel HB1.out _ _ _ _ _ _ _⟩
  simp [results, Try.results18, go_sem, s0, s1, s2, s3, s4, s5, s6]
set_option maxHeartbeats 3200000 in
set_option maxRecDepth 1000000 in
theorem genus0_of (n x0 x1 x2 x3 x4 x5 z : Int) (x6 : Bool) (HF0 : ∀ W, Calls Try.prog 17 #[.int .i64 n] W fun e w' => e = .returned (.tuple #[.agg #[.int .i64 x0, .int .i64 x1, .int .i64 x2, .int .i64 x3, .int .i64 x4, .int .i64 x5, .bool x6], .int .i64 z]) ∧ Below W.heap.size W w') (w : World) :
    Calls Try.prog 20 #[.int .i64 n] w fun e w' => e = .returned (.tuple #[.int .i64 x1, .int .i64 z]) ∧ Below w.heap.size w w' := by
  have HF := Lib.hid HF0
  clear HF0
  go_enter Try.func20, Try.ntmps20
  go_upto_region 2 with (first
    | (go_at_call 17; ((with_reducible refine (HF.out _).mono ?_); rintro e w1 ⟨rfl, hb⟩; have HB1 := Lib.hid hb; clear hb))
    | fail)
  have P1 := Lib.hid (heap_alloc_new w1 (.cells #[.int .i64 x0, .int .i64 x1, .int .i64 x2, .int .i64 x3, .int .i64 x4, .int .i64 x5, .bool x6] 27))
  have HB2 := Lib.hid (HB1.out.alloc HB1.out.size (.cells #[.int .i64 x0, .int .i64 x1, .int .i64 x2, .int .i64 x3, .int .i64 x4, .int .i64 x5, .bool x6] 27))
  obtain ⟨W, hW⟩ : ∃ W, W = w1.alloc (.cells #[.int .i64 x0, .int .i64 x1, .int .i64 x2, .int .i64 x3, .int .i64 x4, .int .i64 x5, .bool x6] 27) := ⟨_, rfl⟩
  rw [← hW] at P1 HB2 ⊢
  clear hW
  obtain ⟨⟨t0, t1, t2, t3, t4, t5, t6⟩, _⟩ := seven_of_block P1.out
  go_wp2
  refine bodyPost_ret (v := .tuple #[.int .i64 x1, .int .i64 z]) ?_ rfl ⟨rfl, by first | exact HB2.out.drew | exact HB2.out⟩
  simp [results, Try.results20, go_sem]
set_option maxHeartbeats 3200000 in
set_option maxRecDepth 1000000 in
theorem rformula0_any (n : Nat) (w : World) (n1 : 1 ≤ n) (n2 : (n : Int) ≤ 120) :
    Calls Try.prog 18 #[.int .i64 (n : Int)] w fun e w' => e = .returned (.tuple #[.agg #[.int .i64 (psV n : Nat), .int .i64 (g0V n), .int .i64 (rtV 4 4 n), .int .i64 (rtV 3 9 n), .int .i64 (cuV n : Nat), .int .i64 0, .bool true], .int .i64 0]) ∧ Below w.heap.size w w' := by
  have HCu := Lib.hid (fun W => rcount0_any n W n1 n2)
  have HPs := Lib.hid (fun W => rpsi_any n W n1 n2)
  have hrf := rf_of n1 (show n ≤ 120 by omega)
  have HP4 : Hid (n % 4 ≠ 0 → ∀ W, Calls Try.prog 46 #[.int .i64 (-4), .int .i64 (n : Int)] W fun e w' => e = .returned (.int .i64 (rtV 4 4 n)) ∧ Below W.heap.size W w') := fun h W => by
    have := rprod_any 4 n (-4) W n1 n2 hrf.d4 fun p w => rsym4_any p w
    rwa [hrf.e4 h] at this
  have HP3 : Hid (n % 9 ≠ 0 → ∀ W, Calls Try.prog 46 #[.int .i64 (-3), .int .i64 (n : Int)] W fun e w' => e = .returned (.int .i64 (rtV 3 9 n)) ∧ Below W.heap.size W w') := fun h W => by
    have := rprod_any 3 n (-3) W n1 n2 hrf.d3 fun p w => rsym3_any p w
    rwa [hrf.e3 h] at this
  have HZ4 : Hid (n % 4 = 0 → rtV 4 4 n = 0) := fun h => by unfold rtV; rw [if_pos h]
  have HZ3 : Hid (n % 9 = 0 → rtV 3 9 n = 0) := fun h => by unfold rtV; rw [if_pos h]
  clear hrf
  have HG : Hid (∀ W, Calls Try.prog 33 #[.agg #[.int .i64 (psV n : Nat), .int .i64 0, .int .i64 (rtV 4 4 n), .int .i64 (rtV 3 9 n), .int .i64 (cuV n : Nat), .int .i64 0, .bool true]] W fun e w' => e = .returned (.agg #[.int .i64 (psV n : Nat), .int .i64 (g0V n), .int .i64 (rtV 4 4 n), .int .i64 (rtV 3 9 n), .int .i64 (cuV n : Nat), .int .i64 0, .bool true]) ∧ Below W.heap.size W w') := fun W => by
    have a := psV_le n1 (by omega)
    have b := cuV_le n1 (by omega)
    have c := rtV_bd (A := 4) (sq := 4) (n := n) (.inr rfl) n1 (by omega)
    have d := rtV_bd (A := 3) (sq := 9) (n := n) (.inl rfl) n1 (by omega)
    exact rgenus_any (psV n : Nat) 0 (rtV 4 4 n) (rtV 3 9 n) (cuV n : Nat) 0 true W (by omega) (by omega) (by omega) (by omega)
  generalize psV n = ps at *
  generalize cuV n = cu at *
  generalize rtV 4 4 n = r4 at *
  generalize rtV 3 9 n = r3 at *
  generalize g0V n = gg at *
  have h4 : (n : Int) % 4 = ((n % 4 : Nat) : Int) := by omega
  have h9 : (n : Int) % 9 = ((n % 9 : Nat) : Int) := by omega
  have T0 : Hid ((w.alloc (.cells #[.int .i64 0, .int .i64 0, .int .i64 0, .int .i64 0, .int .i64 0, .int .i64 0, .bool false] 27)).heap[w.heap.size]? = some (.cells #[.int .i64 0, .int .i64 0, .int .i64 0, .int .i64 0, .int .i64 0, .int .i64 0, .bool false] 27 (0, 0))) := heap_alloc_new w _
  have HB0 : Hid (Below w.heap.size w (w.alloc (.cells #[.int .i64 0, .int .i64 0, .int .i64 0, .int .i64 0, .int .i64 0, .int .i64 0, .bool false] 27))) := below1 w _
  go_enter Try.func18, Try.ntmps18
  go_upto_region 5 with (first
    | (go_at_call 44; ((with_reducible refine (HCu.out _).mono ?_); rintro e w1 ⟨rfl, hb⟩; have HB1 := Lib.hid (bel0 HB0.out hb); have T1 := Lib.hid (block_below T0.out hb); clear hb))
    | (go_at_call 45; ((with_reducible refine (HPs.out _).mono ?_); rintro e w2 ⟨rfl, hb⟩; have HB2 := Lib.hid (bel0 HB1.out hb); have T2 := Lib.hid (block_below T1.out hb); clear hb))
    | fail)
  clear HCu HPs T0 HB0 HB1 T1
  have G0 : Hid (GR w2 (w2.alloc (.cells #[.int .i64 ps, .int .i64 0, .int .i64 0, .int .i64 0, .int .i64 cu, .int .i64 0, .bool true] 27)) w2.heap.size ps 0 0 cu 0 true) := ⟨heap_alloc_new w2 _, Nat.le_refl _, below1 w2 _⟩
  obtain ⟨W, hW⟩ : ∃ W, W = w2.alloc (.cells #[.int .i64 ps, .int .i64 0, .int .i64 0, .int .i64 0, .int .i64 cu, .int .i64 0, .bool true] 27) := ⟨_, rfl⟩
  rw [← hW] at G0 ⊢
  clear hW
  have hgn : w.heap.size < w2.heap.size := lt_of_block T2.out
  generalize w2.heap.size = gb at *
  have hgne : ¬ gb = w.heap.size := by omega
  have hgne2 : ¬ w.heap.size = gb := by omega
  by_cases e4 : n % 4 = 0
  · have e4z := e4
    obtain rfl := HZ4.out e4
    rw [e4] at h4
    have h4' : (n : Int) % 4 = 0 := h4
    go_upto_region 7 with (fail)
    clear h4' h4
    by_cases e9 : n % 9 = 0
    · have e9z := e9
      obtain rfl := HZ3.out e9
      rw [e9] at h9
      have h9' : (n : Int) % 9 = 0 := h9
      go_upto_region 9 with (fail)
      clear h9' h9
      obtain ⟨⟨g0, g1, g2, g3, g4, g5, g6⟩, _⟩ := seven_of_block G0.out.blk
      have T5 := Lib.hid (block_below T2.out G0.out.bel)
      have HB5 := Lib.hid (bel0 HB2.out G0.out.bel)
      clear HP4 HP3 HZ4 HZ3
      go_wp2_with (first
        | (go_at_call 33; ((with_reducible refine (HG.out _).mono ?_); rintro e w5 ⟨rfl, hb⟩; have HB6 := Lib.hid (bel0 HB5.out hb); have T6 := Lib.hid (block_below T5.out hb); obtain ⟨⟨t0, t1, t2, t3, t4, t5, t6⟩, _⟩ := seven_of_block T6.out; clear hb))
        | fail)
      obtain ⟨⟨s0, s1, s2, s3, s4, s5, s6⟩, _⟩ := seven_of_block (seven_set T6.out (.int .i64 (ps : Int)) (.int .i64 gg) (.int .i64 0) (.int .i64 0) (.int .i64 (cu : Int)) (.int .i64 0) (.bool true))
      refine bodyPost_ret (v := .tuple #[.agg #[.int .i64 (ps : Int), .int .i64 gg, .int .i64 0, .int .i64 0, .int .i64 (cu : Int), .int .i64 0, .bool true], .int .i64 0]) ?_ rfl ⟨rfl, seven_bel HB6.out _ _ _ _ _ _ _⟩
      simp [results, Try.results18, go_sem, s0, s1, s2, s3, s4, s5, s6]
    · have e9z := e9
      have HC3 := Lib.hid (HP3.out e9)
      have e9i : ((n : Int) % 9 == 0) = false := by rw [h9, beq_eq_false_iff_ne]; omega
      have e9j : ¬ ((n : Int) % 9 = 0) := by omega
      clear h9
      go_upto_region 9 with (first
        | (go_at_call 46; ((with_reducible refine (HC3.out _).mono ?_); rintro e w4 ⟨rfl, hb⟩; have G2 := Lib.hid ((G0.out.below hb).set3 r3); obtain ⟨⟨y0, y1, y2, y3, y4, y5, y6⟩, yf⟩ := seven_of_block (G0.out.below hb).blk; clear hb))
        | fail)
      obtain ⟨W4, hW4⟩ : ∃ W, W = w4.setCell ⟨gb, 3, none⟩ (.int .i64 r3) := ⟨_, rfl⟩
      rw [← hW4] at G2 ⊢
      clear hW4 e9i e9j y0 y1 y2 y3 y4 y5 y6 yf
      obtain ⟨⟨g0, g1, g2, g3, g4, g5, g6⟩, _⟩ := seven_of_block G2.out.blk
      have T5 := Lib.hid (block_below T2.out G2.out.bel)
      have HB5 := Lib.hid (bel0 HB2.out G2.out.bel)
      clear HP4 HP3 HZ4 HZ3
      go_wp2_with (first
        | (go_at_call 33; ((with_reducible refine (HG.out _).mono ?_); rintro e w5 ⟨rfl, hb⟩; have HB6 := Lib.hid (bel0 HB5.out hb); have T6 := Lib.hid (block_below T5.out hb); obtain ⟨⟨t0, t1, t2, t3, t4, t5, t6⟩, _⟩ := seven_of_block T6.out; clear hb))
        | fail)
      obtain ⟨⟨s0, s1, s2, s3, s4, s5, s6⟩, _⟩ := seven_of_block (seven_set T6.out (.int .i64 (ps : Int)) (.int .i64 gg) (.int .i64 0) (.int .i64 r3) (.int .i64 (cu : Int)) (.int .i64 0) (.bool true))
      refine bodyPost_ret (v := .tuple #[.agg #[.int .i64 (ps : Int), .int .i64 gg, .int .i64 0, .int .i64 r3, .int .i64 (cu : Int), .int .i64 0, .bool true], .int .i64 0]) ?_ rfl ⟨rfl, seven_bel HB6.out _ _ _ _ _ _ _⟩
      simp [results, Try.results18, go_sem, s0, s1, s2, s3, s4, s5, s6]
  · have e4z := e4
    have HC4 := Lib.hid (HP4.out e4)
    have e4i : ((n : Int) % 4 == 0) = false := by rw [h4, beq_eq_false_iff_ne]; omega
    have e4j : ¬ ((n : Int) % 4 = 0) := by omega
    clear h4
    go_upto_region 7 with (first
      | (go_at_call 46; ((with_reducible refine (HC4.out _).mono ?_); rintro e w3 ⟨rfl, hb⟩; have G1 := Lib.hid ((G0.out.below hb).set2 r4); obtain ⟨⟨y0, y1, y2, y3, y4, y5, y6⟩, yf⟩ := seven_of_block (G0.out.below hb).blk; clear hb))
      | fail)
    obtain ⟨W3, hW3⟩ : ∃ W, W = w3.setCell ⟨gb, 2, none⟩ (.int .i64 r4) := ⟨_, rfl⟩
    rw [← hW3] at G1 ⊢
    clear hW3 e4i e4j y0 y1 y2 y3 y4 y5 y6 yf
    by_cases e9 : n % 9 = 0
    · have e9z := e9
      obtain rfl := HZ3.out e9
      rw [e9] at h9
      have h9' : (n : Int) % 9 = 0 := h9
      go_upto_region 9 with (fail)
      clear h9' h9
      obtain ⟨⟨g0, g1, g2, g3, g4, g5, g6⟩, _⟩ := seven_of_block G1.out.blk
      have T5 := Lib.hid (block_below T2.out G1.out.bel)
      have HB5 := Lib.hid (bel0 HB2.out G1.out.bel)
      clear HP4 HP3 HZ4 HZ3
      go_wp2_with (first
        | (go_at_call 33; ((with_reducible refine (HG.out _).mono ?_); rintro e w5 ⟨rfl, hb⟩; have HB6 := Lib.hid (bel0 HB5.out hb); have T6 := Lib.hid (block_below T5.out hb); obtain ⟨⟨t0, t1, t2, t3, t4, t5, t6⟩, _⟩ := seven_of_block T6.out; clear hb))
        | fail)
      obtain ⟨⟨s0, s1, s2, s3, s4, s5, s6⟩, _⟩ := seven_of_block (seven_set T6.out (.int .i64 (ps : Int)) (.int .i64 gg) (.int .i64 r4) (.int .i64 0) (.int .i64 (cu : Int)) (.int .i64 0) (.bool true))
      refine bodyPost_ret (v := .tuple #[.agg #[.int .i64 (ps : Int), .int .i64 gg, .int .i64 r4, .int .i64 0, .int .i64 (cu : Int), .int .i64 0, .bool true], .int .i64 0]) ?_ rfl ⟨rfl, seven_bel HB6.out _ _ _ _ _ _ _⟩
      simp [results, Try.results18, go_sem, s0, s1, s2, s3, s4, s5, s6]
    · have e9z := e9
      have HC3 := Lib.hid (HP3.out e9)
      have e9i : ((n : Int) % 9 == 0) = false := by rw [h9, beq_eq_false_iff_ne]; omega
      have e9j : ¬ ((n : Int) % 9 = 0) := by omega
      clear h9
      go_upto_region 9 with (first
        | (go_at_call 46; ((with_reducible refine (HC3.out _).mono ?_); rintro e w4 ⟨rfl, hb⟩; have G2 := Lib.hid ((G1.out.below hb).set3 r3); obtain ⟨⟨y0, y1, y2, y3, y4, y5, y6⟩, yf⟩ := seven_of_block (G1.out.below hb).blk; clear hb))
        | fail)
      obtain ⟨W4, hW4⟩ : ∃ W, W = w4.setCell ⟨gb, 3, none⟩ (.int .i64 r3) := ⟨_, rfl⟩
      rw [← hW4] at G2 ⊢
      clear hW4 e9i e9j y0 y1 y2 y3 y4 y5 y6 yf
      obtain ⟨⟨g0, g1, g2, g3, g4, g5, g6⟩, _⟩ := seven_of_block G2.out.blk
      have T5 := Lib.hid (block_below T2.out G2.out.bel)
      have HB5 := Lib.hid (bel0 HB2.out G2.out.bel)
      clear HP4 HP3 HZ4 HZ3
      go_wp2_with (first
        | (go_at_call 33; ((with_reducible refine (HG.out _).mono ?_); rintro e w5 ⟨rfl, hb⟩; have HB6 := Lib.hid (bel0 HB5.out hb); have T6 := Lib.hid (block_below T5.out hb); obtain ⟨⟨t0, t1, t2, t3, t4, t5, t6⟩, _⟩ := seven_of_block T6.out; clear hb))
        | fail)
      obtain ⟨⟨s0, s1, s2, s3, s4, s5, s6⟩, _⟩ := seven_of_block (seven_set T6.out (.int .i64 (ps : Int)) (.int .i64 gg) (.int .i64 r4) (.int .i64 r3) (.int .i64 (cu : Int)) (.int .i64 0) (.bool true))
      refine bodyPost_ret (v := .tuple #[.agg #[.int .i64 (ps : Int), .int .i64 gg, .int .i64 r4, .int .i64 r3, .int .i64 (cu : Int), .int .i64 0, .bool true], .int .i64 0]) ?_ rfl ⟨rfl, seven_bel HB6.out _ _ _ _ _ _ _⟩
      simp [results, Try.results18, go_sem, s0, s1, s2, s3, s4, s5, s6]
end Go.Proofs.Ytmikhkolbkdnpaa
namespace Go.Proofs.Ytmikhkolbkdnpaa
open Go.RowKit
set_option linter.unusedVariables false
set_option linter.unusedSimpArgs false

def ck1Ok (n : Nat) : Bool := n == 0 || ckxI 1 (n : Int) == 0
set_option maxRecDepth 100000 in
theorem ck1_all : (List.range 121).all ck1Ok = true := by decide +kernel
theorem ck1_zero {n : Nat} (n1 : 1 ≤ n) (n2 : n ≤ 120) : ckxI 1 (n : Int) = 0 := by
  have h := List.all_eq_true.1 ck1_all n (List.mem_range.2 (by omega))
  unfold ck1Ok at h
  rw [Bool.or_eq_true, beq_iff_eq, beq_iff_eq] at h
  rcases h with h | h
  · omega
  · exact h
theorem g0_zz {k : Nat} (k1 : 1 ≤ k) {i : Nat} (hi : i < (V1 k).length) : fnz (iz (srun (kc1 (k : Int)) (V1 k).length).S) (fnz (iz (srun (kc1 (k : Int)) (V1 k).length).S) i) = i := by
  have hF := kfin1 k1
  have hC := g0_cos k1
  have hS := fun {x : M4} (hx : dtM x = 1) => hF.atS hC hx (g0_mem k1 hx)
  have hdS := fun {x : M4} (hx : dtM x = 1) => show dtM (mS x) = 1 by rw [dtM_S]; exact hx
  have hx := hF.dL hi
  have hi' := hF.pl_L hi
  rw [← hi', hS hx, hS (hdS hx), g0_pl k1 (hdS (hdS hx)) hx]
  generalize (srun (kc1 (k : Int)) (V1 k).length).L.getD i (0, 0, 0, 0) = x
  refine ⟨0, ?_⟩
  show -x.2.2.1 * x.2.2.2 - x.2.2.1 * -x.2.2.2 = _
  grind
theorem g0_sgx {n : Nat} (n1 : 1 ≤ n) (n2 : n ≤ 120) : chkA (olS 1 (n : Int)) (olT 1 (n : Int)) = 0 ∧ sgX (olS 1 (n : Int)) (olT 1 (n : Int)) = .agg #[.int .i64 (psV n : Nat), .int .i64 (g0V n), .int .i64 (rtV 4 4 n), .int .i64 (rtV 3 9 n), .int .i64 (cuV n : Nat), .int .i64 0, .bool true] := by
  have hc := ck1_zero n1 n2
  have ha := ol_act hc
  have h0 := chkA_ok ha
  refine ⟨h0, ?_⟩
  have hl : (olS 1 (n : Int)).length = idxN 1 ((n : Int)).toNat := by unfold olS; rw [iz_len]; exact (srun_len _ _).2.1
  have hi : idxN 1 ((n : Int)).toNat = (V1 n).length := by
    unfold V1
    rw [List.length_map, pts_psi n1 n2, Int.toNat_natCast]
    rfl
  have e1 : olS 1 (n : Int) = iz (srun (kc1 (n : Int)) (V1 n).length).S := by
    unfold olS; rw [hi]; rfl
  have hm : mnB (olS 1 (n : Int)) = true := by
    unfold mnB
    rw [e1]
    exact decide_eq_true (g0_zz n1 (by rw [← hi, ← hl]; exact ha.pos))
  have hcl := clP_ok h0
  have hcu : (clP (olS 1 (n : Int)) (olT 1 (n : Int))).length = cuZ (fnz (olS 1 (n : Int))) (fnz (olT 1 (n : Int))) (olS 1 (n : Int)).length := by rw [hcl]; rfl
  have hir : irL (rgF (olS 1 (n : Int)) (olT 1 (n : Int))) (clP (olS 1 (n : Int)) (olT 1 (n : Int))) = 0 := by
    unfold irL
    rw [List.length_eq_zero_iff, List.filter_eq_nil_iff]
    intro p hp
    rw [hcl] at hp
    have hlt := (cst_reps ha.pt (rel_inv ha.ps ha.pt ha.rel)).lt p hp
    rw [(rg_minus ha hlt hm).1]
    decide
  obtain ⟨a1, a2, a3, a4⟩ := g0_all n1 n2 hc
  rw [sgX_ok h0]
  unfold sgA gnZ g0V
  rw [hcu, hir, hm, a1, a2, a3, a4]
  rfl
end Go.Proofs.Ytmikhkolbkdnpaa
namespace Go.Proofs.Ytmikhkolbkdnpaa
open Go.RowKit
set_option linter.unusedVariables false
set_option linter.unusedSimpArgs false

set_option maxHeartbeats 6400000 in
set_option maxRecDepth 1000000 in
theorem sg0_walk (hsg : ∀ n : Nat, 1 ≤ n → n ≤ 120 → ckxI 1 (n : Int) = 0 ∧ chkA (olS 1 (n : Int)) (olT 1 (n : Int)) = 0 ∧ sgX (olS 1 (n : Int)) (olT 1 (n : Int)) = .agg #[.int .i64 (psV n : Nat), .int .i64 (g0V n), .int .i64 (rtV 4 4 n), .int .i64 (rtV 3 9 n), .int .i64 (cuV n : Nat), .int .i64 0, .bool true]) (n : Int) (w : World) :
    Calls Try.prog 7 #[.int .i64 n] w fun e w' => e = .returned (.bool true) ∧ Below w.heap.size w w' := by
  by_cases hn : n < 1 ∨ 120 < n
  · have HF := Lib.hid (fun W => formula0_bad n W hn)
    have HR := Lib.hid (fun W => rformula0_bad n W hn)
    have HEl := Lib.hid (fun W => elliptic_of n _ _ _ _ _ _ _ _ (fun W => formula0_bad n W hn) W)
    have HGe := Lib.hid (fun W => genus0_of n _ _ _ _ _ _ _ _ (fun W => formula0_bad n W hn) W)
    clear hn hsg
    go_enter Try.func7, Try.ntmps7
    go_upto_region 7 with (first
      | (go_at_call 10; ((with_reducible refine (awake_any _).mono ?_); rintro e w1 ⟨rfl, hb⟩; have HB1 := Lib.hid hb; clear hb))
      | (go_at_call 17; ((with_reducible refine (HF.out _).mono ?_); rintro e w2 ⟨rfl, hb⟩; have HB2 := Lib.hid (bel0 HB1.out hb); clear hb))
      | (go_at_call 18; ((with_reducible refine (HR.out _).mono ?_); rintro e w3 ⟨rfl, hb⟩; have X3 := Lib.hid (block_below (heap_alloc_new w2 (.cells #[.int .i64 0, .int .i64 0, .int .i64 0, .int .i64 0, .int .i64 0, .int .i64 0, .bool false] 27)) hb); have HB3 := Lib.hid (bel0 (HB2.out.alloc HB2.out.size (.cells #[.int .i64 0, .int .i64 0, .int .i64 0, .int .i64 0, .int .i64 0, .int .i64 0, .bool false] 27)) hb); clear hb))
      | (go_at_call 19; ((with_reducible refine (HEl.out _).mono ?_); rintro e w4 ⟨rfl, hb⟩; have X4 := Lib.hid (block_below (block_alloc X3.out (.cells #[.int .i64 0, .int .i64 0, .int .i64 0, .int .i64 0, .int .i64 0, .int .i64 0, .bool false] 27)) hb); have Y4 := Lib.hid (block_below (heap_alloc_new w3 (.cells #[.int .i64 0, .int .i64 0, .int .i64 0, .int .i64 0, .int .i64 0, .int .i64 0, .bool false] 27)) hb); have HB4 := Lib.hid (bel0 (HB3.out.alloc HB3.out.size (.cells #[.int .i64 0, .int .i64 0, .int .i64 0, .int .i64 0, .int .i64 0, .int .i64 0, .bool false] 27)) hb); clear hb))
      | (go_at_call 20; ((with_reducible refine (HGe.out _).mono ?_); rintro e w5 ⟨rfl, hb⟩; have X5 := Lib.hid (block_below X4.out hb); have Y5 := Lib.hid (block_below Y4.out hb); have HB5 := Lib.hid (bel0 HB4.out hb); clear hb))
      | fail)
    clear X3 X4 Y4 HB1 HB2 HB3 HB4 HF HR HEl HGe
    generalize w2.heap.size = a1 at *
    generalize w3.heap.size = a2 at *
    obtain ⟨⟨x0, x1, x2, x3, x4, x5, x6⟩, _⟩ := seven_of_block X5.out
    obtain ⟨⟨y0, y1, y2, y3, y4, y5, y6⟩, _⟩ := seven_of_block Y5.out
    go_wp2
    go_ret
    exact ⟨rfl, HB5.out⟩
  · obtain ⟨m, rfl⟩ : ∃ m : Nat, n = (m : Nat) := ⟨n.toNat, by omega⟩
    have HF := Lib.hid (fun W => formula0_any m W (by omega) (by omega))
    have HR := Lib.hid (fun W => rformula0_any m W (by omega) (by omega))
    have HEl := Lib.hid (fun W => elliptic_of (m : Int) _ _ _ _ _ _ _ _ (fun W => formula0_any m W (by omega) (by omega)) W)
    have HGe := Lib.hid (fun W => genus0_of (m : Int) _ _ _ _ _ _ _ _ (fun W => formula0_any m W (by omega) (by omega)) W)
    obtain ⟨hk0, hk1, hk2⟩ := hsg m (by omega) (by omega)
    have HOf := Lib.hid (fun W => of_ok hk0 W)
    have HSo := Lib.hid (fun (B : Nat) (W : World) (AS AT : Option Addr) (cS cT : Nat) (h1 : RdZ W B AS cS (olS 1 (m : Int))) (h2 : RdZ W B AT cT (olT 1 (m : Int))) (hB : B ≤ W.heap.size) => sof_any W h1 h2 hB)
    rw [hk1, hk2] at HSo
    clear hn hsg hk0 hk1 hk2
    generalize psV m = ps at *
    generalize cuV m = cu at *
    generalize rtV 4 4 m = r4 at *
    generalize rtV 3 9 m = r3 at *
    generalize g0V m = gg at *
    generalize olS 1 (m : Int) = lS at *
    generalize olT 1 (m : Int) = lT at *
    go_enter Try.func7, Try.ntmps7
    go_upto_region 7 with (first
      | (go_at_call 10; ((with_reducible refine (awake_any _).mono ?_); rintro e w1 ⟨rfl, hb⟩; have HB1 := Lib.hid hb; clear hb))
      | (go_at_call 17; ((with_reducible refine (HF.out _).mono ?_); rintro e w2 ⟨rfl, hb⟩; have HB2 := Lib.hid (bel0 HB1.out hb); clear hb))
      | (go_at_call 18; ((with_reducible refine (HR.out _).mono ?_); rintro e w3 ⟨rfl, hb⟩; have X3 := Lib.hid (block_below (heap_alloc_new w2 (.cells #[.int .i64 (ps : Int), .int .i64 gg, .int .i64 r4, .int .i64 r3, .int .i64 (cu : Int), .int .i64 0, .bool true] 27)) hb); have HB3 := Lib.hid (bel0 (HB2.out.alloc HB2.out.size (.cells #[.int .i64 (ps : Int), .int .i64 gg, .int .i64 r4, .int .i64 r3, .int .i64 (cu : Int), .int .i64 0, .bool true] 27)) hb); clear hb))
      | (go_at_call 19; ((with_reducible refine (HEl.out _).mono ?_); rintro e w4 ⟨rfl, hb⟩; have X4 := Lib.hid (block_below (block_alloc X3.out (.cells #[.int .i64 (ps : Int), .int .i64 gg, .int .i64 r4, .int .i64 r3, .int .i64 (cu : Int), .int .i64 0, .bool true] 27)) hb); have Y4 := Lib.hid (block_below (heap_alloc_new w3 (.cells #[.int .i64 (ps : Int), .int .i64 gg, .int .i64 r4, .int .i64 r3, .int .i64 (cu : Int), .int .i64 0, .bool true] 27)) hb); have HB4 := Lib.hid (bel0 (HB3.out.alloc HB3.out.size (.cells #[.int .i64 (ps : Int), .int .i64 gg, .int .i64 r4, .int .i64 r3, .int .i64 (cu : Int), .int .i64 0, .bool true] 27)) hb); clear hb))
      | (go_at_call 20; ((with_reducible refine (HGe.out _).mono ?_); rintro e w5 ⟨rfl, hb⟩; have X5 := Lib.hid (block_below X4.out hb); have Y5 := Lib.hid (block_below Y4.out hb); have HB5 := Lib.hid (bel0 HB4.out hb); clear hb))
      | fail)
    clear X3 X4 Y4 HB1 HB2 HB3 HB4 HF HR HEl HGe
    generalize w2.heap.size = a1 at *
    generalize w3.heap.size = a2 at *
    obtain ⟨⟨x0, x1, x2, x3, x4, x5, x6⟩, _⟩ := seven_of_block X5.out
    obtain ⟨⟨y0, y1, y2, y3, y4, y5, y6⟩, _⟩ := seven_of_block Y5.out
    go_upto_region 13 with (first
      | (go_at_call 21; ((with_reducible refine (HOf.out _).mono ?_); rintro e w6 ⟨AS, cS, AT, cT, rfl, hrS, hrT, hb⟩; have X6 := Lib.hid (block_below X5.out hb); have HB6 := Lib.hid (bel0 HB5.out hb); have HC := Lib.hid (HSo.out w6.heap.size (w6.alloc (.cells #[.slice AS lS.length cS, .slice AT lT.length cT] 24)) AS AT cS cT (hrS.below (below1 w6 _)) (hrT.below (below1 w6 _)) (by simp)); clear hrS hrT hb))
      | (go_at_call 11; ((with_reducible refine HC.out.mono ?_); rintro e w7 ⟨rfl, hb⟩; have X7 := Lib.hid (block_below (block_alloc X6.out (.cells #[.slice AS lS.length cS, .slice AT lT.length cT] 24)) hb); have HB7 := Lib.hid (bel0 (HB6.out.alloc HB6.out.size (.cells #[.slice AS lS.length cS, .slice AT lT.length cT] 24)) hb); clear hb))
      | fail)
    have X8 := Lib.hid (block_alloc X7.out (.cells #[.int .i64 (ps : Int), .int .i64 gg, .int .i64 r4, .int .i64 r3, .int .i64 (cu : Int), .int .i64 0, .bool true] 27))
    have Z8 := Lib.hid (heap_alloc_new w7 (.cells #[.int .i64 (ps : Int), .int .i64 gg, .int .i64 r4, .int .i64 r3, .int .i64 (cu : Int), .int .i64 0, .bool true] 27))
    have HB8 := Lib.hid (HB7.out.alloc HB7.out.size (.cells #[.int .i64 (ps : Int), .int .i64 gg, .int .i64 r4, .int .i64 r3, .int .i64 (cu : Int), .int .i64 0, .bool true] 27))
    obtain ⟨W, hW⟩ : ∃ W, W = w7.alloc (.cells #[.int .i64 (ps : Int), .int .i64 gg, .int .i64 r4, .int .i64 r3, .int .i64 (cu : Int), .int .i64 0, .bool true] 27) := ⟨_, rfl⟩
    rw [← hW] at X8 Z8 HB8 ⊢
    clear hW X7 X6 HB7 HB6 HC HSo HOf X5 Y5 x0 x1 x2 x3 x4 x5 x6 y0 y1 y2 y3 y4 y5 y6
    generalize w7.heap.size = a8 at *
    obtain ⟨⟨x0, x1, x2, x3, x4, x5, x6⟩, _⟩ := seven_of_block X8.out
    obtain ⟨⟨z0, z1, z2, z3, z4, z5, z6⟩, _⟩ := seven_of_block Z8.out
    go_wp2
    go_ret
    exact ⟨rfl, HB8.out⟩
end Go.Proofs.Ytmikhkolbkdnpaa
namespace Go.Proofs.Ytmikhkolbkdnpaa
open Go.RowKit
theorem sg0_full (n : Int) (w : World) :
    Calls Try.prog 7 #[.int .i64 n] w fun e w' => e = .returned (.bool true) ∧ Below w.heap.size w w' :=
  sg0_walk (fun _ a b => ⟨ck1_zero a b, g0_sgx a b⟩) n w
end Go.Proofs.Ytmikhkolbkdnpaa
