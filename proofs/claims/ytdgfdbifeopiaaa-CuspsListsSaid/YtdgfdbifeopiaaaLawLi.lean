/- Plain mathematics: the signature of the coset action of Gamma0(n), by sums over the projective line. The sums over the projective line, decided for all levels. The contracts of the reference's formula of Gamma0(n): Divisors, Phi, Count0, Psi, symbol, product. The contracts of the reference's Count0, Psi, symbol, product and Formula0. The contract of the reference's List0. The facts of Gamma0's lists: as many cusps as the formula says, as many classes. CuspsLists. -/
import Derived.Test.YtdgfdbifeopiaaaSgF
import Derived.Test.YtdgfdbifeopiaaaSigM
import Derived.Test.YtdgfdbifeopiaaaSgnA
import Derived.Test.YtdgfdbifeopiaaaClaM
import Derived.Test.YtdgfdbifeopiaaaAtP
import Derived.Deep.DeepCutAuto
import Derived.Deep.CutBlock
import Derived.Deep.RegionHeld3
import Derived.IntWalk
import Derived.Deep.AppendLies
namespace Go.Proofs.Ytdgfdbifeopiaaa
set_option linter.unusedVariables false

theorem kc1_iffP {n : Int} (n1 : 1 ≤ n) {x y : M4} (hx : dtM x = 1) (hy : dtM y = 1) : kc1 n x = kc1 n y ↔ n ∣ x.2.2.1 * y.2.2.2 - y.2.2.1 * x.2.2.2 := by
  obtain ⟨a, b, c, d⟩ := x
  obtain ⟨a', b', c', d'⟩ := y
  simp only [dtM] at hx hy
  show ((nfU n c d, nfV n c d, 0, 0) : K4) = (nfU n c' d', nfV n c' d', 0, 0) ↔ n ∣ c * d' - c' * d
  rw [nfk_iff n1]
  constructor
  · rintro ⟨s, hs, ⟨p, hp⟩, ⟨q, hq⟩⟩
    exact ⟨p * d - c * q, by grind⟩
  · rintro ⟨r, hr⟩
    refine ⟨a * d' - b * c', ?_, ⟨a * r, by grind⟩, ⟨b * r, by grind⟩⟩
    have e : ∃ u v : Int, u * (a * d' - b * c') + v * n = 1 := ⟨a' * d - b' * c, (a * b' - b * a') * r, by grind⟩
    obtain ⟨u, v, e⟩ := e
    have h1 : ((Int.gcd (a * d' - b * c') n : Nat) : Int) ∣ 1 := by
      rw [← e]
      exact Int.dvd_add (Int.dvd_mul_of_dvd_right (Int.gcd_dvd_left ..)) (Int.dvd_mul_of_dvd_right (Int.gcd_dvd_right ..))
    have h2 := Int.natAbs_dvd_natAbs.2 h1
    simpa using h2
/-- A sum over the places of a list. -/
theorem smB_shift (h : Nat → Nat) : ∀ n, smB h (n + 1) = h 0 + smB (fun i => h (i + 1)) n
  | 0 => by simp [smB]
  | n + 1 => by rw [smB, smB_shift h n, smB]; omega
theorem smB_list {α : Type} (d : α) (W : α → Nat) : ∀ l : List α, smB (fun q => W (l.getD q d)) l.length = (l.map W).sum
  | [] => rfl
  | a :: l => by
    rw [List.length_cons, smB_shift, List.map_cons, List.sum_cons, ← smB_list d W l]
    rfl
theorem cntB_smB (t : Nat → Bool) : ∀ n, cntB t n = smB (fun i => if t i = true then 1 else 0) n
  | 0 => rfl
  | n + 1 => by rw [cntB, smB, cntB_smB t n]
theorem smB_scale (t : Nat → Bool) (c : Nat) : ∀ n, smB (fun i => if t i = true then c else 0) n = c * cntB t n
  | 0 => rfl
  | n + 1 => by
    rw [smB, cntB, smB_scale t c n, Nat.mul_add]
    cases t n <;> simp
/-- An action whose -1 does nothing is its own projective action. -/
theorem PAct.triv {g f : Nat → Nat} {n : Nat} (h : PAct g f n) (hz : ∀ i, i < n → g (g i) = i) : mO g n = n ∧ (∀ q, q < n → sO g n q = g q) ∧ ∀ q, q < n → tO g f n q = f q := by
  obtain ⟨h1, h2⟩ := pjN_id (z := zOf g) n hz
  have hm : mO g n = n := by unfold mO; rw [h1, List.length_range]
  have hl : ∀ q, q < n → lsO g n q = q := fun q hq => by unfold lsO; rw [h1]; simp [List.getD, hq]
  refine ⟨hm, fun q hq => ?_, fun q hq => ?_⟩
  · show phO g n (g (lsO g n q)) = _
    rw [hl q hq]; exact h2 _ (h.gp.lt q hq)
  · show phO g n (f (lsO g n q)) = _
    rw [hl q hq]; exact h2 _ (h.fp.lt q hq)
/-- The two rows of numbers stand for one point. -/
theorem nf_both {n : Int} (n1 : 1 ≤ n) (c d : Int) : ∃ T R : Int, n ∣ T * nfU n c d - c ∧ n ∣ T * nfV n c d - d ∧ n ∣ R * c - nfU n c d ∧ n ∣ R * d - nfV n c d := by
  obtain ⟨T, h⟩ := nf_spec n1 c d
  obtain ⟨R, hR, h1, h2⟩ := h.inv
  exact ⟨T, R, h.eu, h.ev, h1, h2⟩
def wS (k : Nat) (v : K4) : Nat := if (v.1 * v.1 + v.2.1 * v.2.1) % (k : Int) = 0 then 1 else 0
def wU (k : Nat) (v : K4) : Nat := if (v.1 * v.1 - v.1 * v.2.1 + v.2.1 * v.2.1) % (k : Int) = 0 then 1 else 0
def wC (k : Nat) (v : K4) : Nat := Int.gcd (v.1 * v.1) (k : Int)
theorem wS_eq {k : Nat} (k1 : 1 ≤ k) (x : M4) : wS k (kc1 (k : Int) x) = if (k : Int) ∣ x.2.2.1 * x.2.2.1 + x.2.2.2 * x.2.2.2 then 1 else 0 := by
  obtain ⟨T, R, ⟨a, ha⟩, ⟨b, hb⟩, ⟨c, hc⟩, ⟨d, hd⟩⟩ := nf_both (n := (k : Int)) (by omega) x.2.2.1 x.2.2.2
  unfold wS
  show (if (nfU (k : Int) x.2.2.1 x.2.2.2 * nfU (k : Int) x.2.2.1 x.2.2.2 + nfV (k : Int) x.2.2.1 x.2.2.2 * nfV (k : Int) x.2.2.1 x.2.2.2) % (k : Int) = 0 then 1 else 0) = _
  generalize nfU (k : Int) x.2.2.1 x.2.2.2 = U at *
  generalize nfV (k : Int) x.2.2.1 x.2.2.2 = V at *
  generalize x.2.2.1 = C at *
  generalize x.2.2.2 = D at *
  have e : (U * U + V * V) % (k : Int) = 0 ↔ (k : Int) ∣ C * C + D * D := by
    rw [← Int.dvd_iff_emod_eq_zero]
    constructor
    · rintro ⟨r, hr⟩
      exact ⟨T * T * r - (T * U + C) * a - (T * V + D) * b, by grind⟩
    · rintro ⟨r, hr⟩
      exact ⟨R * R * r - (R * C + U) * c - (R * D + V) * d, by grind⟩
  by_cases h : (k : Int) ∣ C * C + D * D
  · rw [if_pos h, if_pos (e.2 h)]
  · rw [if_neg h, if_neg fun h' => h (e.1 h')]
theorem wU_eq {k : Nat} (k1 : 1 ≤ k) (x : M4) : wU k (kc1 (k : Int) x) = if (k : Int) ∣ x.2.2.1 * x.2.2.1 - x.2.2.1 * x.2.2.2 + x.2.2.2 * x.2.2.2 then 1 else 0 := by
  obtain ⟨T, R, ⟨a, ha⟩, ⟨b, hb⟩, ⟨c, hc⟩, ⟨d, hd⟩⟩ := nf_both (n := (k : Int)) (by omega) x.2.2.1 x.2.2.2
  unfold wU
  show (if (nfU (k : Int) x.2.2.1 x.2.2.2 * nfU (k : Int) x.2.2.1 x.2.2.2 - nfU (k : Int) x.2.2.1 x.2.2.2 * nfV (k : Int) x.2.2.1 x.2.2.2 + nfV (k : Int) x.2.2.1 x.2.2.2 * nfV (k : Int) x.2.2.1 x.2.2.2) % (k : Int) = 0 then 1 else 0) = _
  generalize nfU (k : Int) x.2.2.1 x.2.2.2 = U at *
  generalize nfV (k : Int) x.2.2.1 x.2.2.2 = V at *
  generalize x.2.2.1 = C at *
  generalize x.2.2.2 = D at *
  have e : (U * U - U * V + V * V) % (k : Int) = 0 ↔ (k : Int) ∣ C * C - C * D + D * D := by
    rw [← Int.dvd_iff_emod_eq_zero]
    constructor
    · rintro ⟨r, hr⟩
      exact ⟨T * T * r - (T * U + C) * a - (T * V + D) * b + a * T * V + C * b, by grind⟩
    · rintro ⟨r, hr⟩
      exact ⟨R * R * r - (R * C + U) * c - (R * D + V) * d + c * R * D + U * d, by grind⟩
  by_cases h : (k : Int) ∣ C * C - C * D + D * D
  · rw [if_pos h, if_pos (e.2 h)]
  · rw [if_neg h, if_neg fun h' => h (e.1 h')]
theorem wC_eq {k : Nat} (k1 : 1 ≤ k) (x : M4) : wC k (kc1 (k : Int) x) = Int.gcd (x.2.2.1 * x.2.2.1) (k : Int) := by
  obtain ⟨T, R, ⟨a, ha⟩, ⟨b, hb⟩, ⟨c, hc⟩, ⟨d, hd⟩⟩ := nf_both (n := (k : Int)) (by omega) x.2.2.1 x.2.2.2
  unfold wC
  show Int.gcd (nfU (k : Int) x.2.2.1 x.2.2.2 * nfU (k : Int) x.2.2.1 x.2.2.2) (k : Int) = _
  generalize nfU (k : Int) x.2.2.1 x.2.2.2 = U at *
  generalize x.2.2.1 = C at *
  have key : ∀ {U C T a : Int}, T * U - C = (k : Int) * a → Int.gcd (U * U) (k : Int) ∣ Int.gcd (C * C) (k : Int) := fun {U C T a} h => by
    refine Int.dvd_gcd ?_ (Int.gcd_dvd_right ..)
    have e : C * C = T * T * (U * U) - (T * U + C) * a * (k : Int) := by grind
    rw [e]
    exact Int.dvd_sub (Int.dvd_mul_of_dvd_right (Int.gcd_dvd_left ..)) (Int.dvd_mul_of_dvd_right (Int.gcd_dvd_right ..))
  exact Nat.dvd_antisymm (key ha) (key hc)
section
variable {k : Nat} (k1 : 1 ≤ k)
include k1
theorem g0_cos : Cos (kc1 (k : Int)) := kos1 (by omega)
theorem g0_mem {x : M4} (hx : dtM x = 1) : kc1 (k : Int) x ∈ (srun (kc1 (k : Int)) (V1 k).length).K := SFin.all (g0_cos k1) (kfin1 k1) hx
theorem g0_perm : (srun (kc1 (k : Int)) (V1 k).length).K.Perm (V1 k) := by
  have hF := kfin1 k1
  have hR := hF.ri
  refine (List.perm_ext_iff_of_nodup (by rw [hR.k]; exact hR.nd) (v1_nodup k)).2 fun v => ⟨fun hv => ?_, fun hv => ?_⟩
  · rw [hR.k] at hv
    obtain ⟨x, hx, rfl⟩ := List.mem_map.1 hv
    exact nf_in k1 (row_cop (hR.d x hx))
  · obtain ⟨c, d, hc, hv⟩ := nf_on k1 hv
    obtain ⟨x, hx, h1, h2⟩ := lift_row' hc
    rw [← hv _ _ h1 h2]
    exact g0_mem k1 hx
/-- A sum over the points. -/
theorem g0_sum (W : K4 → Nat) : smB (fun q => W (kc1 (k : Int) ((srun (kc1 (k : Int)) (V1 k).length).L.getD q (0, 0, 0, 0)))) (V1 k).length = ((V1 k).map W).sum := by
  have hF := kfin1 k1
  have hR := hF.ri
  have h1 := smB_list ((0, 0, 0, 0) : M4) (fun x => W (kc1 (k : Int) x)) (srun (kc1 (k : Int)) (V1 k).length).L
  rw [hF.len] at h1
  rw [h1, ← List.Perm.sum_nat ((g0_perm k1).map W), hR.k, List.map_map]
  rfl
/-- x T^w. -/
def twP : Nat → M4 → M4
  | 0, x => x
  | w + 1, x => mT (twP w x)
omit k1 in
theorem twP_dt {x : M4} (hx : dtM x = 1) : ∀ w, dtM (twP w x) = 1
  | 0 => hx
  | w + 1 => by show dtM (mT (twP w x)) = 1; rw [dtM_T]; exact twP_dt hx w
omit k1 in
theorem twP_row (x : M4) : ∀ w : Nat, (twP w x).2.2.1 = x.2.2.1 ∧ (twP w x).2.2.2 = x.2.2.2 + (w : Int) * x.2.2.1
  | 0 => ⟨rfl, by show x.2.2.2 = _; simp⟩
  | w + 1 => by
    obtain ⟨h1, h2⟩ := twP_row x w
    refine ⟨h1, ?_⟩
    show (twP w x).2.2.1 + (twP w x).2.2.2 = _
    rw [h1, h2, Int.natCast_add, Int.add_mul]
    omega
theorem g0_itr {x : M4} (hx : dtM x = 1) : ∀ w, itr (fnz (iz (srun (kc1 (k : Int)) (V1 k).length).T)) w (plC (kc1 (k : Int)) (V1 k).length x) = plC (kc1 (k : Int)) (V1 k).length (twP w x)
  | 0 => rfl
  | w + 1 => by
    show fnz _ (itr _ w _) = _
    rw [g0_itr hx w]
    exact (kfin1 k1).atT (g0_cos k1) (twP_dt hx w) (g0_mem k1 (twP_dt hx w))
theorem g0_pl {x y : M4} (hx : dtM x = 1) (hy : dtM y = 1) : plC (kc1 (k : Int)) (V1 k).length x = plC (kc1 (k : Int)) (V1 k).length y ↔ (k : Int) ∣ x.2.2.1 * y.2.2.2 - y.2.2.1 * x.2.2.2 := by
  rw [← kc1_iffP (by omega) hx hy]
  refine ⟨fun e => (kfin1 k1).pl_inj (g0_mem k1 hx) (g0_mem k1 hy) e, fun e => ?_⟩
  show List.idxOf _ _ = List.idxOf _ _
  rw [e]
/-- The length of a cycle of T. -/
theorem g0_per {x : M4} (hx : dtM x = 1) : IsPer (fnz (iz (srun (kc1 (k : Int)) (V1 k).length).T)) (plC (kc1 (k : Int)) (V1 k).length x) (k / Int.gcd (x.2.2.1 * x.2.2.1) (k : Int)) := by
  have key : ∀ w : Nat, itr (fnz (iz (srun (kc1 (k : Int)) (V1 k).length).T)) w (plC (kc1 (k : Int)) (V1 k).length x) = plC (kc1 (k : Int)) (V1 k).length x ↔ (k : Int) ∣ (w : Int) * (x.2.2.1 * x.2.2.1) := fun w => by
    rw [g0_itr k1 hx w, g0_pl k1 (twP_dt hx w) hx, (twP_row x w).1, (twP_row x w).2]
    generalize x.2.2.1 = c
    generalize x.2.2.2 = d
    constructor
    · rintro ⟨r, hr⟩; exact ⟨-r, by grind⟩
    · rintro ⟨r, hr⟩; exact ⟨-r, by grind⟩
  generalize x.2.2.1 * x.2.2.1 = s at *
  have hg : 0 < Int.gcd s (k : Int) := Int.gcd_pos_of_ne_zero_right s (by omega)
  have hgd : Int.gcd s (k : Int) ∣ k := by
    have := Int.gcd_dvd_right s (k : Int)
    exact Int.natCast_dvd_natCast.1 this
  have hgs : ((Int.gcd s (k : Int) : Nat) : Int) ∣ s := Int.gcd_dvd_left ..
  have hw : ∀ w : Nat, (k : Int) ∣ (w : Int) * s ↔ k / Int.gcd s (k : Int) ∣ w := fun w => by
    obtain ⟨q, hq⟩ := hgd
    obtain ⟨r, hr⟩ := hgs
    have hcop : Int.gcd r (q : Int) = 1 := by
      have h1 : Int.gcd s (k : Int) = Int.gcd s (k : Int) * Int.gcd r (q : Int) := by
        have h2 := Int.gcd_mul_left ((Int.gcd s (k : Int) : Nat) : Int) r (q : Int)
        rw [← hr, show ((Int.gcd s (k : Int) : Nat) : Int) * (q : Int) = (k : Int) by rw [← Int.natCast_mul, ← hq]] at h2
        simpa using h2
      have h3 : Int.gcd s (k : Int) * 1 = Int.gcd s (k : Int) * Int.gcd r (q : Int) := by rw [Nat.mul_one]; exact h1
      exact (Nat.eq_of_mul_eq_mul_left hg h3).symm
    generalize Int.gcd s (k : Int) = G at *
    subst hq hr
    rw [Nat.mul_div_cancel_left q hg]
    constructor
    · rintro ⟨t, ht⟩
      have h4 : (G : Int) * ((w : Int) * r) = (G : Int) * ((q : Int) * t) := by rw [Int.natCast_mul] at ht; grind
      have h5 : (w : Int) * r = (q : Int) * t := Int.eq_of_mul_eq_mul_left (by omega) h4
      have h6 : (q : Int) ∣ (w : Int) * r := ⟨t, h5⟩
      have h7 := Int.natAbs_dvd_natAbs.2 h6
      rw [Int.natAbs_mul, Int.natAbs_natCast, Int.natAbs_natCast] at h7
      have h8 : Nat.Coprime q r.natAbs := by
        have : Int.gcd r (q : Int) = Nat.gcd r.natAbs q := rfl
        rw [Nat.Coprime, Nat.gcd_comm, ← this]; exact hcop
      exact Nat.Coprime.dvd_of_dvd_mul_right h8 h7
    · rintro ⟨t, rfl⟩
      exact ⟨(t : Int) * r, by rw [Int.natCast_mul, Int.natCast_mul]; grind⟩
  refine ⟨Nat.div_pos (Nat.le_of_dvd k1 hgd) hg, (key _).2 ((hw _).2 (Nat.dvd_refl _)), fun j h1 h2 e => ?_⟩
  have := (hw j).1 ((key j).1 e)
  exact absurd (Nat.le_of_dvd h1 this) (by omega)
/-- The signature of the coset action of Gamma0(k), by sums over the projective line. -/
theorem g0_sig : mO (fnz (iz (srun (kc1 (k : Int)) (V1 k).length).S)) (V1 k).length = (V1 k).length ∧
    n2Z (fnz (iz (srun (kc1 (k : Int)) (V1 k).length).S)) (V1 k).length = ((V1 k).map (wS k)).sum ∧
    n3Z (fnz (iz (srun (kc1 (k : Int)) (V1 k).length).S)) (fnz (iz (srun (kc1 (k : Int)) (V1 k).length).T)) (V1 k).length = ((V1 k).map (wU k)).sum ∧
    k * cuZ (fnz (iz (srun (kc1 (k : Int)) (V1 k).length).S)) (fnz (iz (srun (kc1 (k : Int)) (V1 k).length).T)) (V1 k).length = ((V1 k).map (wC k)).sum := by
  have hF := kfin1 k1
  have hC := g0_cos k1
  have hP := hF.pact hC
  have hS := fun {x : M4} (hx : dtM x = 1) => hF.atS hC hx (g0_mem k1 hx)
  have hT := fun {x : M4} (hx : dtM x = 1) => hF.atT hC hx (g0_mem k1 hx)
  have hdS := fun {x : M4} (hx : dtM x = 1) => show dtM (mS x) = 1 by rw [dtM_S]; exact hx
  have hdT := fun {x : M4} (hx : dtM x = 1) => show dtM (mT x) = 1 by rw [dtM_T]; exact hx
  have hzz : ∀ i, i < (V1 k).length → fnz (iz (srun (kc1 (k : Int)) (V1 k).length).S) (fnz (iz (srun (kc1 (k : Int)) (V1 k).length).S) i) = i := fun i hi => by
    have hx := hF.dL hi
    have hi' := hF.pl_L hi
    rw [← hi', hS hx, hS (hdS hx), g0_pl k1 (hdS (hdS hx)) hx]
    generalize (srun (kc1 (k : Int)) (V1 k).length).L.getD i (0, 0, 0, 0) = x
    refine ⟨0, ?_⟩
    show -x.2.2.1 * x.2.2.2 - x.2.2.1 * -x.2.2.2 = _
    grind
  obtain ⟨hm, hs, ht⟩ := hP.triv hzz
  refine ⟨hm, ?_, ?_, ?_⟩
  · rw [← g0_sum k1 (wS k)]
    unfold n2Z
    rw [hm, cntB_smB]
    refine smB_congr _ fun q hq => ?_
    have hx := hF.dL hq
    have hq' := hF.pl_L hq
    rw [wS_eq k1, hs q hq]
    have e : fnz (iz (srun (kc1 (k : Int)) (V1 k).length).S) q = q ↔ (k : Int) ∣ ((srun (kc1 (k : Int)) (V1 k).length).L.getD q (0, 0, 0, 0)).2.2.1 * ((srun (kc1 (k : Int)) (V1 k).length).L.getD q (0, 0, 0, 0)).2.2.1 + ((srun (kc1 (k : Int)) (V1 k).length).L.getD q (0, 0, 0, 0)).2.2.2 * ((srun (kc1 (k : Int)) (V1 k).length).L.getD q (0, 0, 0, 0)).2.2.2 := by
      have h1 := hS hx
      have h2 := g0_pl k1 (hdS hx) hx
      rw [hq'] at h1 h2
      rw [h1, h2]
      generalize (srun (kc1 (k : Int)) (V1 k).length).L.getD q (0, 0, 0, 0) = x
      show (k : Int) ∣ x.2.2.2 * x.2.2.2 - x.2.2.1 * -x.2.2.1 ↔ _
      rw [show x.2.2.2 * x.2.2.2 - x.2.2.1 * -x.2.2.1 = x.2.2.1 * x.2.2.1 + x.2.2.2 * x.2.2.2 by grind]
    by_cases h : fnz (iz (srun (kc1 (k : Int)) (V1 k).length).S) q = q
    · rw [if_pos (decide_eq_true h), if_pos (e.1 h)]
    · rw [if_neg (by simpa using h), if_neg fun h' => h (e.2 h')]
  · rw [← g0_sum k1 (wU k)]
    unfold n3Z
    rw [hm, cntB_smB]
    refine smB_congr _ fun q hq => ?_
    have hx := hF.dL hq
    have hq' := hF.pl_L hq
    rw [wU_eq k1, hs q hq, ht _ (hP.gp.lt q hq)]
    have e : fnz (iz (srun (kc1 (k : Int)) (V1 k).length).T) (fnz (iz (srun (kc1 (k : Int)) (V1 k).length).S) q) = q ↔ (k : Int) ∣ ((srun (kc1 (k : Int)) (V1 k).length).L.getD q (0, 0, 0, 0)).2.2.1 * ((srun (kc1 (k : Int)) (V1 k).length).L.getD q (0, 0, 0, 0)).2.2.1 - ((srun (kc1 (k : Int)) (V1 k).length).L.getD q (0, 0, 0, 0)).2.2.1 * ((srun (kc1 (k : Int)) (V1 k).length).L.getD q (0, 0, 0, 0)).2.2.2 + ((srun (kc1 (k : Int)) (V1 k).length).L.getD q (0, 0, 0, 0)).2.2.2 * ((srun (kc1 (k : Int)) (V1 k).length).L.getD q (0, 0, 0, 0)).2.2.2 := by
      have h1 := hS hx
      have h3 := hT (hdS hx)
      have h2 := g0_pl k1 (hdT (hdS hx)) hx
      rw [hq'] at h1 h2
      rw [h1, h3, h2]
      generalize (srun (kc1 (k : Int)) (V1 k).length).L.getD q (0, 0, 0, 0) = x
      show (k : Int) ∣ x.2.2.2 * x.2.2.2 - x.2.2.1 * (x.2.2.2 + -x.2.2.1) ↔ _
      rw [show x.2.2.2 * x.2.2.2 - x.2.2.1 * (x.2.2.2 + -x.2.2.1) = x.2.2.1 * x.2.2.1 - x.2.2.1 * x.2.2.2 + x.2.2.2 * x.2.2.2 by grind]
    by_cases h : fnz (iz (srun (kc1 (k : Int)) (V1 k).length).T) (fnz (iz (srun (kc1 (k : Int)) (V1 k).length).S) q) = q
    · rw [if_pos (decide_eq_true h), if_pos (e.1 h)]
    · rw [if_neg (by simpa using h), if_neg fun h' => h (e.2 h')]
  · rw [← g0_sum k1 (wC k)]
    have hz : Inv2 (fnz (iz (srun (kc1 (k : Int)) (V1 k).length).T)) (fun i => fnz (iz (srun (kc1 (k : Int)) (V1 k).length).S) (fnz (iz (srun (kc1 (k : Int)) (V1 k).length).S) i)) (V1 k).length := ⟨fun i hi => hP.gp.lt _ (hP.gp.lt i hi), fun i hi => hP.zz i hi, fun i hi => hP.fc i hi⟩
    have hR := cst_reps hP.fp hz
    refine (cls_weight (uB_eqv hP.fp hz) hR (fun q => wC k (kc1 (k : Int) ((srun (kc1 (k : Int)) (V1 k).length).L.getD q (0, 0, 0, 0)))) fun x hx => ?_).symm
    have hxN := hR.lt x hx
    have hd := hF.dL hxN
    have hpl := hF.pl_L hxN
    have hper := g0_per k1 hd
    rw [hpl] at hper
    have hcnt := cnt_u (p := x) hP.fp hz hxN
    rw [wid0_fix hP.fp hxN (hzz x hxN), (perO_spec hP.fp hxN).1.uniq hper] at hcnt
    have hw : ∀ i, i < (V1 k).length → uB (fnz (iz (srun (kc1 (k : Int)) (V1 k).length).T)) (fun i => fnz (iz (srun (kc1 (k : Int)) (V1 k).length).S) (fnz (iz (srun (kc1 (k : Int)) (V1 k).length).S) i)) (V1 k).length x i = true → wC k (kc1 (k : Int) ((srun (kc1 (k : Int)) (V1 k).length).L.getD i (0, 0, 0, 0))) = Int.gcd (((srun (kc1 (k : Int)) (V1 k).length).L.getD x (0, 0, 0, 0)).2.2.1 * ((srun (kc1 (k : Int)) (V1 k).length).L.getD x (0, 0, 0, 0)).2.2.1) (k : Int) := fun i hi hu => by
      rw [uB_iff hP.fp hz hxN, hzz x hxN, or_self] at hu
      obtain ⟨w, e⟩ := hu
      have hdi := hF.dL hi
      have e2 : plC (kc1 (k : Int)) (V1 k).length (twP w ((srun (kc1 (k : Int)) (V1 k).length).L.getD x (0, 0, 0, 0))) = plC (kc1 (k : Int)) (V1 k).length ((srun (kc1 (k : Int)) (V1 k).length).L.getD i (0, 0, 0, 0)) := by
        rw [← g0_itr k1 hd w, hpl, e, hF.pl_L hi]
      have e3 := hF.pl_inj (g0_mem k1 (twP_dt hd w)) (g0_mem k1 hdi) e2
      rw [← e3, wC_eq k1, (twP_row _ w).1]
    have e4 : smB (fun i => @ite Nat (uB (fnz (iz (srun (kc1 (k : Int)) (V1 k).length).T)) (fun i => fnz (iz (srun (kc1 (k : Int)) (V1 k).length).S) (fnz (iz (srun (kc1 (k : Int)) (V1 k).length).S) i)) (V1 k).length x i = true) (Classical.propDecidable _) (wC k (kc1 (k : Int) ((srun (kc1 (k : Int)) (V1 k).length).L.getD i (0, 0, 0, 0)))) 0) (V1 k).length = smB (fun i => if uB (fnz (iz (srun (kc1 (k : Int)) (V1 k).length).T)) (fun i => fnz (iz (srun (kc1 (k : Int)) (V1 k).length).S) (fnz (iz (srun (kc1 (k : Int)) (V1 k).length).S) i)) (V1 k).length x i = true then Int.gcd (((srun (kc1 (k : Int)) (V1 k).length).L.getD x (0, 0, 0, 0)).2.2.1 * ((srun (kc1 (k : Int)) (V1 k).length).L.getD x (0, 0, 0, 0)).2.2.1) (k : Int) else 0) (V1 k).length := smB_congr _ fun i hi => by
      by_cases h : uB (fnz (iz (srun (kc1 (k : Int)) (V1 k).length).T)) (fun i => fnz (iz (srun (kc1 (k : Int)) (V1 k).length).S) (fnz (iz (srun (kc1 (k : Int)) (V1 k).length).S) i)) (V1 k).length x i = true
      · rw [if_pos h, if_pos h, hw i hi h]
      · rw [if_neg h, if_neg h]
    refine e4.trans ?_
    rw [smB_scale, hcnt]
    refine Nat.mul_div_cancel' ?_
    exact Int.natCast_dvd_natCast.1 (Int.gcd_dvd_right _ (k : Int))
end
end Go.Proofs.Ytdgfdbifeopiaaa
namespace Go.Proofs.Ytdgfdbifeopiaaa
set_option linter.unusedVariables false

def rowS (W : Nat → Nat → Nat) (n u : Nat) : Nat := if (u == 0 || n % u == 0) = true then (let F := fixN n u; (((List.range n).filter (fastB n u F)).map (W u)).sum) else 0
theorem rowS_eq (W : Nat → Nat → Nat) {n u : Nat} (n1 : 1 ≤ n) (n2 : n ≤ 120) (hu1 : u < n) : rowS W n u = ((row n u).map (W u)).sum := by
  unfold rowS
  by_cases h : u = 0 ∨ u ∣ n
  · rw [if_pos (by rcases h with h | h; simp [h]; rw [Nat.mod_eq_zero_of_dvd h]; simp)]
    show (((List.range n).filter (fastB n u (fixN n u))).map (W u)).sum = (((List.range n).filter (ptB n u)).map (W u)).sum
    rw [List.filter_congr fun v hv => fast_eq hu1 h (List.mem_range.1 hv)]
  · rw [row_no n1 n2 hu1 h, if_neg]
    · rfl
    · intro hc
      rw [Bool.or_eq_true, beq_iff_eq, beq_iff_eq] at hc
      rcases hc with hc | hc
      · exact h (.inl hc)
      · exact h (.inr (Nat.dvd_of_mod_eq_zero hc))
def sumU (W : Nat → Nat → Nat) (n : Nat) : Nat → Nat
  | 0 => 0
  | u + 1 => sumU W n u + rowS W n u
theorem sumU_eq (W : Nat → Nat → Nat) {n : Nat} (n1 : 1 ≤ n) (n2 : n ≤ 120) : ∀ u, u ≤ n → sumU W n u = ((ptu n u).map fun p => W p.1 p.2).sum
  | 0, _ => rfl
  | u + 1, h => by
    rw [sumU, sumU_eq W n1 n2 u (by omega), rowS_eq W n1 n2 (by omega), ptu_succ, List.map_append, List.sum_append, List.map_map]
    rfl
theorem sum_V1 (W : K4 → Nat) {n : Nat} (n1 : 1 ≤ n) (n2 : n ≤ 120) : ((V1 n).map W).sum = sumU (fun u v => W ((u : Int), (v : Int), 0, 0)) n n := by
  rw [sumU_eq _ n1 n2 n (Nat.le_refl n), ptu_pts]
  unfold V1
  rw [List.map_map]
  rfl
def s0Ok (n : Nat) : Bool := n == 0 || (sumU (fun u v => if (u * u + v * v) % n = 0 then 1 else 0) n n == (rtV 4 4 n).toNat && decide (0 ≤ rtV 4 4 n))
def u0Ok (n : Nat) : Bool := n == 0 || (sumU (fun u v => if (u * u + v * v + n * n - u * v) % n = 0 then 1 else 0) n n == (rtV 3 9 n).toNat && decide (0 ≤ rtV 3 9 n))
def c0Ok (n : Nat) : Bool := n == 0 || (sumU (fun u v => Nat.gcd (u * u) n) n n == n * cuV n && psiN n == psV n)
theorem s0_a : (List.range 60).all s0Ok = true := by decide +kernel
theorem s0_b : (List.range 35).all (fun k => s0Ok (60 + k)) = true := by decide +kernel
theorem s0_c : (List.range 26).all (fun k => s0Ok (95 + k)) = true := by decide +kernel
theorem u0_a : (List.range 60).all u0Ok = true := by decide +kernel
theorem u0_b : (List.range 35).all (fun k => u0Ok (60 + k)) = true := by decide +kernel
theorem u0_c : (List.range 26).all (fun k => u0Ok (95 + k)) = true := by decide +kernel
theorem c0_a : (List.range 60).all c0Ok = true := by decide +kernel
theorem c0_b : (List.range 35).all (fun k => c0Ok (60 + k)) = true := by decide +kernel
theorem c0_c : (List.range 26).all (fun k => c0Ok (95 + k)) = true := by decide +kernel
theorem sumU_congr {W W' : Nat → Nat → Nat} {n : Nat} (n1 : 1 ≤ n) (n2 : n ≤ 120) (h : ∀ u v, u < n → v < n → W u v = W' u v) : sumU W n n = sumU W' n n := by
  rw [sumU_eq W n1 n2 n (Nat.le_refl n), sumU_eq W' n1 n2 n (Nat.le_refl n), ptu_pts]
  congr 1
  refine List.map_congr_left fun p hp => ?_
  obtain ⟨a, b⟩ := p
  obtain ⟨h1, h2, _⟩ := mem_pts.1 hp
  exact h a b h1 h2
theorem s0_val {n : Nat} (n1 : 1 ≤ n) (n2 : n ≤ 120) : ((V1 n).map (wS n)).sum = (rtV 4 4 n).toNat ∧ 0 ≤ rtV 4 4 n := by
  have h : s0Ok n = true := three_parts s0_a s0_b s0_c n2
  unfold s0Ok at h
  rw [Bool.or_eq_true, beq_iff_eq, Bool.and_eq_true, beq_iff_eq, decide_eq_true_eq] at h
  rcases h with h | ⟨h1, h2⟩
  · omega
  · refine ⟨?_, h2⟩
    rw [sum_V1 _ n1 n2, ← h1]
    refine sumU_congr n1 n2 fun u v _ _ => ?_
    unfold wS
    show (if ((u : Int) * u + (v : Int) * v) % (n : Int) = 0 then 1 else 0) = _
    have e : ((u : Int) * u + (v : Int) * v) % (n : Int) = (((u * u + v * v) % n : Nat) : Int) := by
      rw [Int.natCast_emod, Int.natCast_add, Int.natCast_mul, Int.natCast_mul]
    rw [e]
    by_cases h : (u * u + v * v) % n = 0
    · rw [if_pos h, if_pos (by omega)]
    · rw [if_neg h, if_neg (by omega)]
theorem u0_val {n : Nat} (n1 : 1 ≤ n) (n2 : n ≤ 120) : ((V1 n).map (wU n)).sum = (rtV 3 9 n).toNat ∧ 0 ≤ rtV 3 9 n := by
  have h : u0Ok n = true := three_parts u0_a u0_b u0_c n2
  unfold u0Ok at h
  rw [Bool.or_eq_true, beq_iff_eq, Bool.and_eq_true, beq_iff_eq, decide_eq_true_eq] at h
  rcases h with h | ⟨h1, h2⟩
  · omega
  · refine ⟨?_, h2⟩
    rw [sum_V1 _ n1 n2, ← h1]
    refine sumU_congr n1 n2 fun u v hu hv => ?_
    unfold wU
    show (if ((u : Int) * u - (u : Int) * v + (v : Int) * v) % (n : Int) = 0 then 1 else 0) = _
    have hle : u * v ≤ n * n := Nat.mul_le_mul (by omega) (by omega)
    have e : ((u : Int) * u - (u : Int) * v + (v : Int) * v) % (n : Int) = (((u * u + v * v + n * n - u * v) % n : Nat) : Int) := by
      rw [Int.natCast_emod, Int.natCast_sub (by omega), Int.natCast_add, Int.natCast_add, Int.natCast_mul, Int.natCast_mul, Int.natCast_mul, Int.natCast_mul]
      rw [show (u : Int) * u + (v : Int) * v + (n : Int) * n - (u : Int) * v = ((u : Int) * u - (u : Int) * v + (v : Int) * v) + (n : Int) * n by omega, Int.add_mul_emod_self_left]
    rw [e]
    by_cases h : (u * u + v * v + n * n - u * v) % n = 0
    · rw [if_pos h, if_pos (by omega)]
    · rw [if_neg h, if_neg (by omega)]
theorem c0_val {n : Nat} (n1 : 1 ≤ n) (n2 : n ≤ 120) : ((V1 n).map (wC n)).sum = n * cuV n ∧ psiN n = psV n := by
  have h : c0Ok n = true := three_parts c0_a c0_b c0_c n2
  unfold c0Ok at h
  rw [Bool.or_eq_true, beq_iff_eq, Bool.and_eq_true, beq_iff_eq, beq_iff_eq] at h
  rcases h with h | ⟨h1, h2⟩
  · omega
  · refine ⟨?_, h2⟩
    rw [sum_V1 _ n1 n2, ← h1]
    refine sumU_congr n1 n2 fun u v _ _ => ?_
    unfold wC
    show Int.gcd ((u : Int) * u) (n : Int) = _
    rw [← Int.natCast_mul]
    rfl
/-- The coset action of Gamma0(n) has the signature of the formula. -/
theorem g0_all {n : Nat} (n1 : 1 ≤ n) (n2 : n ≤ 120) (hc : ckxI 1 (n : Int) = 0) : mO (fnz (olS 1 (n : Int))) (olS 1 (n : Int)).length = psV n ∧ ((n2Z (fnz (olS 1 (n : Int))) (olS 1 (n : Int)).length : Nat) : Int) = rtV 4 4 n ∧ ((n3Z (fnz (olS 1 (n : Int))) (fnz (olT 1 (n : Int))) (olS 1 (n : Int)).length : Nat) : Int) = rtV 3 9 n ∧ cuZ (fnz (olS 1 (n : Int))) (fnz (olT 1 (n : Int))) (olS 1 (n : Int)).length = cuV n := by
  obtain ⟨h1, h2, h3, h4⟩ := g0_sig n1
  have hl : (olS 1 (n : Int)).length = idxN 1 ((n : Int)).toNat := by unfold olS; rw [iz_len]; exact (srun_len _ _).2.1
  have hi : idxN 1 ((n : Int)).toNat = (V1 n).length := by
    have hk := (ckx_kf hc).1.fin
    have := (kfin1 n1)
    unfold V1
    rw [List.length_map, pts_psi n1 n2, Int.toNat_natCast]
    rfl
  have e1 : olS 1 (n : Int) = iz (srun (kc1 (n : Int)) (V1 n).length).S := by
    unfold olS; rw [hi]; rfl
  have e2 : olT 1 (n : Int) = iz (srun (kc1 (n : Int)) (V1 n).length).T := by
    unfold olT; rw [hi]; rfl
  rw [hl, hi, e1, e2]
  obtain ⟨s1, s2⟩ := s0_val n1 n2
  obtain ⟨u1, u2⟩ := u0_val n1 n2
  obtain ⟨c1, c2⟩ := c0_val n1 n2
  refine ⟨?_, ?_, ?_, ?_⟩
  · rw [h1, ← c2]
    unfold V1
    rw [List.length_map, pts_psi n1 n2]
  · rw [h2, s1]; omega
  · rw [h3, u1]; omega
  · rw [c1] at h4
    exact Nat.eq_of_mul_eq_mul_left n1 h4
end Go.Proofs.Ytdgfdbifeopiaaa
namespace Go.Proofs.Ytdgfdbifeopiaaa
open Go.RowKit
set_option linter.unusedVariables false
set_option linter.unusedSimpArgs false

def dvP (n t : Nat) : List Nat := (List.range (t + 1)).filter fun d => decide (1 ≤ d) && decide (n % d = 0)
theorem dvP_zero (n : Nat) : dvP n 0 = [] := by unfold dvP; simp [List.range_succ]
theorem dvP_yes {n t : Nat} (h : n % (t + 1) = 0) : dvP n (t + 1) = dvP n t ++ [t + 1] := by
  unfold dvP
  rw [List.range_succ (n := t + 1), List.filter_append]
  simp [h]
theorem dvP_no {n t : Nat} (h : n % (t + 1) ≠ 0) : dvP n (t + 1) = dvP n t := by
  unfold dvP
  rw [List.range_succ (n := t + 1), List.filter_append]
  simp [h]
theorem dvP_len (n t : Nat) : (dvP n t).length ≤ t + 1 := by
  have := List.length_filter_le (fun d => decide (1 ≤ d) && decide (n % d = 0)) (List.range (t + 1))
  rwa [List.length_range] at this
structure DV (w wr : World) (v : Value) (L : List Nat) : Prop where
  own : wr.ownsRow w.heap.size 3 1 v L.length (zs (iz L))
  bel : Below w.heap.size w wr
theorem DV.push {w wr w' : World} {v v' : Value} {L : List Nat} {p : Nat} {o : Obj} (h : DV w wr v L) (hown : w'.ownsRow w.heap.size 3 1 v' (L.length + 1) (zs (iz L) ++ [.int .i64 (p : Nat)])) (hg : (wr.alloc o).grownBy w' v.ownBlock) : DV w w' v' (L ++ [p]) :=
  ⟨by rw [List.length_append, iz_append, zs_append]; exact hown, (h.bel.alloc h.bel.size o).grown hg (by have := h.bel.size; simp; omega) fun j hj => (h.own.lt j hj).1⟩
set_option maxHeartbeats 3200000 in
set_option maxRecDepth 1000000 in
theorem rdiv_any (n : Nat) (w : World) (n1 : 1 ≤ n) (n2 : (n : Int) ≤ 120) :
    Calls Try.prog 24 #[.int .i64 (n : Int)] w fun e w' => ∃ A c, e = .returned (.slice A (dvN n).length c) ∧ DV w w' (.slice A (dvN n).length c) (dvN n) := by
  obtain ⟨i0, hi0, z0, z1, z2⟩ := info_parts Try.infoInt
  have HE : Hid (dvP n n = dvN n) := rfl
  have H0 := Lib.hid (dvP_zero n)
  have HL := Lib.hid (dvP_len n)
  have HY := Lib.hid (fun t (h : n % (t + 1) = 0) => dvP_yes h)
  have HN := Lib.hid (fun t (h : n % (t + 1) ≠ 0) => dvP_no h)
  go_enter Try.func24, Try.ntmps24
  go_wp2
  go_loopw [3, 4] (fun V I wr => ∃ (t : Nat) (A : Option Addr) (c : Nat), I = .int .i64 ((t + 1 : Nat) : Int) ∧ V = .slice A (dvP n t).length c ∧ t ≤ n ∧ Hid (DV w wr (.slice A (dvP n t).length c) (dvP n t))) (fun _ I _ => n + 1 - (intOf I).toNat)
  case atStart => exact ⟨0, none, 0, rfl, by rw [H0.out]; rfl, Nat.zero_le _, by rw [H0.out]; exact ⟨World.ownsRow_nil _ _ _ _, Below.refl _ _⟩⟩
  case round =>
    obtain ⟨t, A, c, rfl, rfl, ht, HV⟩ := hrel
    by_cases htn : t < n
    · have hti : (((t + 1 : Nat)) : Int) ≤ (n : Int) := by omega
      have hll := HL.out t
      have hmod : (n : Int) % ((t + 1 : Nat) : Int) = ((n % (t + 1) : Nat) : Int) := (Int.natCast_emod n (t + 1)).symm
      obtain ⟨u, hu⟩ : ∃ u, u = t + 1 := ⟨_, rfl⟩
      have hY := HY.out t
      have hN := HN.out t
      rw [← hu] at hti hmod hY hN ⊢
      have hu1 : 1 ≤ (u : Int) := by omega
      have hu0 : ((u : Int) == 0) = false := by rw [beq_eq_false_iff_ne]; omega
      have hu2 : (u : Int) ≤ 120 := by omega
      have HU := Lib.hid hu
      have hll2 : (dvP n t).length ≤ 121 := by omega
      clear hu hll
      by_cases e : n % u = 0
      · have HP := Lib.hid (hY e)
        rw [e] at hmod
        clear hY hN e
        generalize dvP n t = L at *
        have hown := HV.out.own
        have hsz := HV.out.bel.size
        go_wp2_with (at_builtin; (refine wpList_append_own_at _ rfl _ _ 23 rfl w.heap.size 3 i0 (.int .i64 0) 1 8 Try.underlying23 hi0 z0 z1 z2 rfl (by decide) _ _ _ rfl (hown.alloc _) ⟨wr.heap.size, 0, none⟩ 1 1 [.int .i64 (u : Nat)] rfl rfl (cell_one_new' _ _ _) (fun x hx => by simp at hx; rw [hx]; rfl) (by unfold maxLen; omega) (by omega) (by simp; omega) ?_); intro v' w4 hown4 hg4 hnil4 hat4; obtain ⟨A2, c2, rfl⟩ := own_len hown4; have HN4 := Lib.hid (HV.out.push hown4 hg4); clear hown4 hg4 hnil4 hat4)
        go_roundw
        case rel => exact ⟨u, A2, c2, by go_num, by rw [HP.out, List.length_append]; rfl, by have := HU.out; omega, by rw [HP.out, List.length_append]; exact HN4.out⟩
        case measure => have := HU.out; simp [intOf]; omega
      · have HP := Lib.hid (hN e)
        have hne : (((n : Int) % (u : Int)) == 0) = false := by rw [hmod, beq_eq_false_iff_ne]; omega
        clear hY hN e hmod
        go_wp2
        go_roundw
        case rel => exact ⟨u, A, c, by go_num, by rw [HP.out], by have := HU.out; omega, by rw [HP.out]; exact HV.out⟩
        case measure => have := HU.out; simp [intOf]; omega
    · obtain rfl : t = n := by omega
      have hk3 : ¬ (((t + 1 : Nat)) : Int) ≤ (t : Int) := by omega
      rw [HE.out] at HV ⊢
      go_wp2
      go_ret
      exact ⟨A, c, rfl, HV.out⟩
def cpB (g i : Nat) : Bool := decide (Nat.gcd (i + 1) g = 1)
def rphV (g : Nat) : Nat := cntB (cpB g) g
set_option maxHeartbeats 3200000 in
set_option maxRecDepth 1000000 in
theorem rphi_any (g : Nat) (w : World) (g1 : 1 ≤ g) (g2 : (g : Int) ≤ 120) :
    Calls Try.prog 25 #[.int .i64 (g : Int)] w fun e w' => e = .returned (.int .i64 (rphV g : Nat)) ∧ Below w.heap.size w w' := by
  have HE : Hid (cntB (cpB g) g = rphV g) := rfl
  have HS := Lib.hid (fun k => show cntB (cpB g) (k + 1) = cntB (cpB g) k + (if cpB g k = true then 1 else 0) from rfl)
  have HL := Lib.hid (fun k => cntB_leS (cpB g) k)
  have HC : Hid (∀ k, cpB g k = decide (Nat.gcd (k + 1) g = 1)) := fun k => rfl
  have HG : Hid (∀ (u : Nat) W, (u : Int) ≤ 121 → Calls Try.prog 26 #[.int .i64 (u : Int), .int .i64 (g : Int)] W fun e w' => e = .returned (.int .i64 (Nat.gcd u g : Nat)) ∧ ∃ n, w' = W.drewN n) := fun u W h => by
    have := rGcd_any (u : Int) (g : Int) W (by unfold Mid; omega) (by unfold Mid; omega)
    rwa [show Int.gcd (u : Int) (g : Int) = Nat.gcd u g from rfl] at this
  go_enter Try.func25, Try.ntmps25
  go_wp2
  go_loopw [3, 4] (fun C I wr => ∃ t : Nat, I = .int .i64 ((t + 1 : Nat) : Int) ∧ C = .int .i64 (cntB (cpB g) t : Nat) ∧ t ≤ g ∧ Hid (Below w.heap.size w wr)) (fun _ I _ => g + 1 - (intOf I).toNat)
  case atStart => exact ⟨0, rfl, rfl, Nat.zero_le _, Below.refl _ _⟩
  case round =>
    obtain ⟨t, rfl, rfl, ht, HW⟩ := hrel
    by_cases htn : t < g
    · have hti : (((t + 1 : Nat)) : Int) ≤ (g : Int) := by omega
      have hl := HL.out t
      have hs := Lib.hid (HS.out t)
      have hcn := HC.out t
      generalize cntB (cpB g) t = c at *
      have hci : (c : Int) ≤ 120 := by omega
      obtain ⟨u, hu⟩ : ∃ u, u = t + 1 := ⟨_, rfl⟩
      rw [← hu] at hti hcn hs ⊢
      have HGu := Lib.hid (fun W => HG.out u W (by omega))
      have HU := Lib.hid hu
      clear hu
      by_cases e : Nat.gcd u g = 1
      · have hN : Hid (cntB (cpB g) u = c + 1) := by show _ = _; rw [hs.out, hcn, if_pos (decide_eq_true e)]
        rw [e] at HGu
        clear hs hcn e
        go_wp2_with (first
          | (go_at_call 26; ((with_reducible refine (HGu.out _).mono ?_); rintro e w3 ⟨rfl, n1', rfl⟩))
          | fail)
        go_roundw
        case rel => exact ⟨u, by go_num, by rw [hN.out]; go_num, by have := HU.out; omega, below_drewN HW.out _⟩
        case measure => have := HU.out; simp [intOf]; omega
      · have hne : (((Nat.gcd u g : Nat) : Int) == 1) = false := by rw [beq_eq_false_iff_ne]; omega
        have hN : Hid (cntB (cpB g) u = c) := by show _ = _; rw [hs.out, hcn, if_neg (by simpa using e)]; rfl
        clear hs hcn e
        generalize Nat.gcd u g = z at *
        go_wp2_with (first
          | (go_at_call 26; ((with_reducible refine (HGu.out _).mono ?_); rintro e w3 ⟨rfl, n1', rfl⟩))
          | fail)
        go_roundw
        case rel => exact ⟨u, by go_num, by rw [hN.out], by have := HU.out; omega, below_drewN HW.out _⟩
        case measure => have := HU.out; simp [intOf]; omega
    · obtain rfl : t = g := by omega
      have hk3 : ¬ (((t + 1 : Nat)) : Int) ≤ (t : Int) := by omega
      go_wp2
      go_ret
      exact ⟨ret_int' (by rw [HE.out]), HW.out⟩
/-- Whether p is prime, by trial. -/
def prR (p : Nat) : Nat → Bool
  | 0 => true
  | j + 1 => prR p j && decide (p % (j + 2) ≠ 0)
def primeB (p : Nat) : Bool := prR p (p - 2)
def psR (n : Nat) : Nat → Nat
  | 0 => n
  | t + 1 => if (primeB (t + 2) && decide (n % (t + 2) = 0)) = true then psR n t / (t + 2) * (t + 3) else psR n t
def symC (A p x : Nat) : Bool := decide ((x * x + (if A = 4 then 0 else x) + 1) % p = 0)
def symV (A p : Nat) : Int := if (A = 4 ∧ p = 2) ∨ (A = 3 ∧ p = 3) then 0 else if (List.range p).any (symC A p) = true then 1 else -1
def prD (A n : Nat) : Nat → Int
  | 0 => 1
  | t + 1 => if (primeB (t + 2) && decide (n % (t + 2) = 0)) = true then prD A n t * (1 + symV A (t + 2)) else prD A n t
def rfOk (n : Nat) : Bool := n == 0 || ((List.range n).all (fun t => decide (psR n t ≤ 1000) && decide (0 ≤ prD 3 n t) && decide (prD 3 n t ≤ 1000) && decide (0 ≤ prD 4 n t) && decide (prD 4 n t ≤ 1000)) && psR n (n - 1) == psV n && (n % 4 == 0 || prD 4 n (n - 1) == rtV 4 4 n) && (n % 9 == 0 || prD 3 n (n - 1) == rtV 3 9 n) && rphV n == phV n)
set_option maxRecDepth 100000 in
theorem rf_all : (List.range 121).all rfOk = true := by decide +kernel
structure RfF (n : Nat) : Prop where
  p : ∀ t, t < n → psR n t ≤ 1000
  d3 : ∀ t, t < n → 0 ≤ prD 3 n t ∧ prD 3 n t ≤ 1000
  d4 : ∀ t, t < n → 0 ≤ prD 4 n t ∧ prD 4 n t ≤ 1000
  ps : psR n (n - 1) = psV n
  e4 : n % 4 ≠ 0 → prD 4 n (n - 1) = rtV 4 4 n
  e3 : n % 9 ≠ 0 → prD 3 n (n - 1) = rtV 3 9 n
  ph : rphV n = phV n
theorem rf_of {n : Nat} (n1 : 1 ≤ n) (n2 : n ≤ 120) : RfF n := by
  have h := List.all_eq_true.1 rf_all n (List.mem_range.2 (by omega))
  unfold rfOk at h
  rw [Bool.or_eq_true] at h
  rcases h with h | h
  · simp at h; omega
  · simp only [Bool.and_eq_true, Bool.or_eq_true, beq_iff_eq, List.all_eq_true, List.mem_range, decide_eq_true_eq] at h
    obtain ⟨⟨⟨⟨h1, h2⟩, h3⟩, h4⟩, h5⟩ := h
    exact ⟨fun t ht => (h1 t ht).1.1.1.1, fun t ht => ⟨(h1 t ht).1.1.1.2, (h1 t ht).1.1.2⟩, fun t ht => ⟨(h1 t ht).1.2, (h1 t ht).2⟩, h2, fun h => h3.resolve_left h, fun h => h4.resolve_left h, h5⟩
end Go.Proofs.Ytdgfdbifeopiaaa
namespace Go.Proofs.Ytdgfdbifeopiaaa
open Go.RowKit
set_option linter.unusedVariables false
set_option linter.unusedSimpArgs false

set_option maxHeartbeats 800000 in
theorem level0_any (n : Int) (w : World) : Calls Try.prog 23 #[.int .i64 n] w fun e w' => e = .returned (.int .i64 (lvI n)) ∧ w = w' := by
  by_cases h1 : n < 1
  · rw [lv_no (.inl h1)]
    go_enter Try.func23, Try.ntmps23
    go_wp2
    go_ret
    exact ⟨rfl, rfl⟩
  by_cases h2 : 120 < n
  · rw [lv_no (.inr h2)]
    go_enter Try.func23, Try.ntmps23
    go_wp2
    go_ret
    exact ⟨rfl, rfl⟩
  · rw [lv_yes (by omega) (by omega)]
    go_enter Try.func23, Try.ntmps23
    go_wp2
    go_ret
    exact ⟨rfl, rfl⟩
set_option maxHeartbeats 3200000 in
set_option maxRecDepth 1000000 in
theorem rcount0_any (n : Nat) (w : World) (n1 : 1 ≤ n) (n2 : (n : Int) ≤ 120) :
    Calls Try.prog 9 #[.int .i64 (n : Int)] w fun e w' => e = .returned (.tuple #[.int .i64 (cuV n : Nat), .int .i64 0]) ∧ Below w.heap.size w w' := by
  have HLv := Lib.hid (fun W => level0_any (n : Int) W)
  rw [lv_yes (by omega) n2] at HLv
  have HD := Lib.hid (fun W => rdiv_any n W n1 n2)
  have hDl := (dvN_bd n1 (by omega)).1
  have HMem := Lib.hid (dvN_bd n1 (by omega)).2
  have HP : Hid (cuF n ((dvN n).take (dvN n).length) 0 = cuV n) := by show _ = _; rw [List.take_length]; rfl
  have HPh : Hid (∀ (g : Nat), 1 ≤ g → (g : Int) ≤ 120 → ∀ W, Calls Try.prog 25 #[.int .i64 (g : Int)] W fun e w' => e = .returned (.int .i64 (phV g : Nat)) ∧ Below W.heap.size W w') := fun g h1 h2 W => by
    have := rphi_any g W h1 h2
    rwa [(rf_of h1 (by omega)).ph] at this
  have HGc : Hid (∀ (a b : Nat) W, (a : Int) ≤ 120 → (b : Int) ≤ 120 → Calls Try.prog 26 #[.int .i64 (a : Int), .int .i64 (b : Int)] W fun e w' => e = .returned (.int .i64 (Nat.gcd a b : Nat)) ∧ ∃ n, w' = W.drewN n) := fun a b W h1 h2 => by
    have := rGcd_any (a : Int) (b : Int) W (by unfold Mid; omega) (by unfold Mid; omega)
    rwa [show Int.gcd (a : Int) (b : Int) = Nat.gcd a b from rfl] at this
  generalize dvN n = D at *
  go_enter Try.func9, Try.ntmps9
  go_wp2_with (first
    | (go_at_call 23; ((with_reducible refine (HLv.out _).mono ?_); rintro e w' ⟨rfl, rfl⟩))
    | (go_at_call 24; ((with_reducible refine (HD.out _).mono ?_); rintro e w2 ⟨la, lc, rfl, hv⟩; have HO := Lib.hid hv.own; have HB2 := Lib.hid hv.bel; clear hv))
    | fail)
  clear HLv HD
  go_loopw [5, 7] (fun X I wr => ∃ k x : Nat, I = .int .i64 k ∧ X = .int .i64 x ∧ k ≤ D.length ∧ x ≤ 120 * k ∧ Hid (cuF n (D.take k) 0 = x) ∧ Hid (Below w2.heap.size w2 wr)) (fun _ I _ => D.length - (intOf I).toNat)
  case atStart => exact ⟨0, 0, rfl, rfl, Nat.zero_le _, Nat.le_refl _, rfl, Below.refl _ _⟩
  case round =>
    obtain ⟨k, x, rfl, rfl, hk, hx, HX, HW⟩ := hrel
    by_cases hkl : k < D.length
    · have hkli : (k : Int) < (D.length : Int) := by omega
      obtain ⟨g, rfl, hg0⟩ := own_some HO.out (by omega)
      have hg := (HO.out.lt g rfl).2
      have hc0 := HO.out.cells (g := g) rfl k (.int .i64 (D[k] : Nat)) (by simp [zs, iz, hkl])
      rw [addr_add] at hc0
      obtain ⟨m1, m2, m3⟩ := HMem.out D[k] (List.getElem_mem _)
      have x1 : wr.cell? ⟨g, k, none⟩ = some (.int .i64 (D[k] : Nat)) := (HW.out.cell (p := ⟨g, k, none⟩) hg).trans hc0
      have hgw : g < wr.heap.size := Nat.lt_of_lt_of_le hg HW.out.size
      have HN : Hid (cuF n (D.take (k + 1)) 0 = x + phV (Nat.gcd D[k] (n / D[k]))) := by
        show _ = _
        rw [List.take_add_one, List.getElem?_eq_getElem hkl, Option.toList_some, cuF_append, HX.out]; rfl
      clear hc0 HX m2
      generalize D[k] = d at *
      have hd : (n : Int) / (d : Int) = ((n / d : Nat) : Int) := (Int.natCast_ediv _ _).symm
      have htd : Int.tdiv (n : Int) (d : Int) = ((n / d : Nat) : Int) := (Int.ofNat_tdiv _ _).symm
      have hq2 : n / d ≤ 120 := Nat.le_trans (Nat.div_le_self _ _) (by omega)
      have HG := Lib.hid (fun W => HGc.out d (n / d) W (by omega) (by omega))
      have g1 : 1 ≤ Nat.gcd d (n / d) := Nat.gcd_pos_of_pos_left _ (by omega)
      have g2 : Nat.gcd d (n / d) ≤ 120 := Nat.le_trans (Nat.gcd_le_left _ (by omega)) m3
      have HF := Lib.hid (HPh.out (Nat.gcd d (n / d)) g1 (by omega))
      have hf := phV_le (Nat.gcd d (n / d))
      generalize phV (Nat.gcd d (n / d)) = f at *
      generalize Nat.gcd d (n / d) = u at *
      generalize n / d = q at *
      have hd1 : 1 ≤ (d : Int) := by omega
      have hd2 : (d : Int) ≤ 120 := by omega
      have hd0 : ((d : Int) == 0) = false := by rw [beq_eq_false_iff_ne]; omega
      have hd01 : ¬ ((d : Int) = 0) := by omega
      have hd02 : ¬ (d = 0) := by omega
      have hwq : IntKind.i64.wrap (q : Int) = (q : Int) := IntWalk.i64_in _ (by omega)
      have hxf : IntKind.i64.wrap ((x : Int) + (f : Int)) = (x : Int) + (f : Int) := IntWalk.i64_in _ (by omega)
      have HWd : Hid (Below w2.heap.size w2 wr.drew) := HW.out.drew
      have HKc : Hid (∀ W, Below wr.heap.size wr W → W.cell? ⟨g, k, none⟩ = some (.int .i64 (d : Nat))) := fun W hb => (hb.cell (p := ⟨g, k, none⟩) hgw).trans x1
      have D0 : Hid (Below wr.heap.size wr wr.drew) := Below.drew (Below.refl _ _)
      go_upto_region 9 with fail
      go_region_held3 (fun w' => w'.cell? ⟨g, k, none⟩ = some (.int .i64 (d : Nat)))
        (with_reducible first | exact HKc.out _ D2.out | exact HKc.out _ (below_drewN (Below.refl _ wr) _) | exact HKc.out _ D0.out | fail)
        (first
          | (go_at_call 26; ((with_reducible refine (HG.out _).mono ?_); rintro e w3 ⟨rfl, n1', rfl⟩; have D1 : Hid (Below wr.heap.size wr (wr.drewN (1 + n1'))) := below_drewN (Below.refl _ wr) _))
          | (go_at_call 25; ((with_reducible refine (HF.out _).mono ?_); rintro e w4 ⟨rfl, hb⟩; have D2 := Lib.hid (bel0 D1.out hb); clear hb))
          | fail)
      clear hxf hwq htd hd01 hd02
      go_wp2
      go_roundw
      case rel => exact ⟨k + 1, x + f, by go_num, by go_num, by omega, by omega, HN.out, HW.out.trans (D2.out.mono HW.out.size)⟩
      case measure => simp [intOf]; omega
    · obtain rfl : k = D.length := by omega
      have hk3 : ¬ (D.length : Int) < (D.length : Int) := by omega
      have HE : Hid ((x : Int) = (cuV n : Nat)) := by show _ = _; rw [← HP.out, HX.out]
      go_wp2
      refine bodyPost_ret (v := .tuple #[.int .i64 (x : Int), .int .i64 0]) ?_ rfl ⟨by rw [HE.out], HB2.out.trans (HW.out.mono HB2.out.size)⟩
      simp [results, Try.results9, go_sem, *]
end Go.Proofs.Ytdgfdbifeopiaaa
namespace Go.Proofs.Ytdgfdbifeopiaaa
open Go.RowKit
set_option linter.unusedVariables false
set_option linter.unusedSimpArgs false

theorem rgcdn_any (a b : Nat) (w : World) (ha : (a : Int) ≤ 120) (hb : (b : Int) ≤ 120) : Calls Try.prog 26 #[.int .i64 (a : Int), .int .i64 (b : Int)] w fun e w' => e = .returned (.int .i64 (Nat.gcd a b : Nat)) ∧ ∃ n, w' = w.drewN n := by
  have := rGcd_any (a : Int) (b : Int) w (by unfold Mid; omega) (by unfold Mid; omega)
  rwa [show Int.gcd (a : Int) (b : Int) = Nat.gcd a b from rfl] at this
set_option maxHeartbeats 3200000 in
set_option maxRecDepth 1000000 in
theorem rlist0_any (n : Nat) (w : World) (hn : 1 ≤ n) (hn2 : (n : Int) ≤ 120) :
    Calls Try.prog 11 #[.int .i64 n] w fun e w' => ∃ (A : Option Addr) (c : Nat), e = .returned (.tuple #[.slice A (outL n (dvN n)).length c, .int .i64 0]) ∧ w'.ownsRow w.heap.size 54 2 (.slice A (outL n (dvN n)).length c) (outL n (dvN n)).length (cs (outL n (dvN n))) ∧ Below w.heap.size w w' := by
  obtain ⟨i0, hi, z0, z1, z2⟩ := info_parts Try.infoCusp
  obtain ⟨i1, hj, y0, y1, y2⟩ := info_parts Try.infoBool
  have HMK : Hid (∀ (g : Nat) (W : World), g ≤ 120 → (Instr.makeSlice 70 (.int .i64 (g : Int)) (.int .i64 (g : Int))).run Try.prog W = .ok (.slice (some ⟨W.heap.size, 0, none⟩) g g) (W.alloc (.cells (madeCells #[.bool false] g) 4))) := fun g W hg => by
    have h := run_make (P := Try.prog) W 70 4 i1 (.bool false) Try.underlying70 hj y0 .i64 .i64 (g : Int) (g : Int) (by omega) (by omega) (by rw [y2]; omega) (by omega)
    rw [show ((g : Int)).toNat = g by omega, y1, Nat.mul_one] at h
    exact h
  have HC := Lib.hid (fun W => level0_any (n : Int) W)
  rw [lv_yes (by omega) hn2] at HC
  have HD := Lib.hid (fun W => rdiv_any n W hn hn2)
  clear hj y0 y1 y2
  go_enter Try.func11, Try.ntmps11
  go_wp2_with (first
    | (go_at_call 23; ((with_reducible refine (HC.out _).mono ?_); rintro e w' ⟨rfl, rfl⟩))
    | (go_at_call 24; ((with_reducible refine (HD.out _).mono ?_); rintro e w1 ⟨A0, c0, rfl, hv⟩; have HO := Lib.hid hv.own; have HB := Lib.hid hv.bel; clear hv HD HC))
    | fail)
  have HLen := (dvN_bd hn (by omega)).1
  have HMem := Lib.hid (dvN_bd hn (by omega)).2
  obtain ⟨D, hD⟩ : ∃ D, D = dvN n := ⟨_, rfl⟩
  rw [← hD] at HLen HMem HO ⊢
  have HE := Lib.hid hD
  clear hD
  go_loopw [5, 7, 8, 9, 10, 11] (fun V I _ _ _ _ wr => ∃ (A : Option Addr) (c k : Nat), I = .int .i64 k ∧ V = .slice A (outL n (D.take k)).length c ∧ k ≤ D.length ∧ Hid (LS w1 wr (.slice A (outL n (D.take k)).length c) (outL n (D.take k)))) (fun _ I _ _ _ _ _ => D.length - (intOf I).toNat)
  case atStart => exact ⟨none, 0, 0, rfl, rfl, Nat.zero_le _, ⟨World.ownsRow_nil _ _ _ _, Below.refl _ _⟩⟩
  case round =>
    obtain ⟨A, c, k, rfl, rfl, hk, HS⟩ := hrel
    have hsz1 := HS.out.bel.size
    by_cases hlt : k < D.length
    · have hlti : (k : Int) < (D.length : Int) := by omega
      obtain ⟨gd, rfl, hgd⟩ := own_some HO.out (by omega)
      have hgd2 := (HO.out.lt gd rfl).2
      have hc0 := HO.out.cells (g := gd) rfl k (.int .i64 (D[k] : Nat)) (by simp [zs, iz, hlt])
      rw [addr_add] at hc0
      have hcell : wr.cell? ⟨gd, k, none⟩ = some (.int .i64 (D[k] : Int)) := (HS.out.bel.cell (p := ⟨gd, k, none⟩) hgd2).trans hc0
      clear hc0
      obtain ⟨m1, m2, m3⟩ := HMem.out D[k] (List.getElem_mem _)
      have HSucc := Lib.hid (outL_succ (n := n) hlt)
      have HLenC : (outL n (D.take k)).length ≤ 120 * k := outL_len n (fun x hx => (HMem.out x hx).2.2) k hk
      generalize D[k] = d at *
      generalize outL n (D.take k) = C at *
      obtain ⟨q, hq⟩ : ∃ q, q = n / d := ⟨_, rfl⟩
      have hqi : (n : Int) / (d : Int) = (q : Int) := by rw [hq]; exact cast_div n d
      have hq2 : q ≤ 120 := by rw [hq]; exact Nat.le_trans (Nat.div_le_self _ _) (by omega)
      have hqi2 : (q : Int) ≤ 120 := by omega
      have d1 : 1 ≤ (d : Int) := by omega
      have d2 : (d : Int) ≤ 120 := by omega
      obtain ⟨g, hg⟩ : ∃ g, g = Nat.gcd d q := ⟨_, rfl⟩
      have HG := Lib.hid (fun W => rgcdn_any d q W d2 hqi2)
      rw [← hg] at HG
      have g1 : 1 ≤ g := by rw [hg]; exact Nat.gcd_pos_of_pos_left _ (by omega)
      have g2 : g ≤ 120 := by rw [hg]; exact Nat.le_trans (Nat.gcd_le_left _ (by omega)) m3
      have hmk := fun W => HMK.out g W g2
      have HOut : Hid (outL n (D.take (k + 1)) = C ++ (st d g d).2) := by have := HSucc.out; unfold outD at this; rw [← hq, ← hg] at this; exact this
      have HG' := Lib.hid hg
      clear hq hg HSucc
      go_upto_region 12 with (first
        | (go_at_call 26; ((with_reducible refine (HG.out _).mono ?_); rintro e w' ⟨rfl, n1, rfl⟩))
        | fail)
      have HS1 := Lib.hid ((HS.out.drewN n1).alloc (.cells (madeCells #[.bool false] g) 4))
      have HR1 : Hid (((wr.drewN n1).alloc (.cells (madeCells #[.bool false] g) 4)).rowIs wr.heap.size 4 g (fun _ => .bool false)) := World.rowIs_made _ _ _ _
      clear hmk hcell HS
      obtain ⟨W0, hW0⟩ : ∃ W0, W0 = (wr.drewN n1).alloc (.cells (madeCells #[.bool false] g) 4) := ⟨_, rfl⟩
      rw [← hW0] at HS1 HR1 ⊢
      clear hW0
      generalize wr.heap.size = b at *
      go_wp2
      go_loopw [5, 11] (fun V P wi => ∃ (A' : Option Addr) (c' p : Nat), P = .int .i64 (p : Int) ∧ V = .slice A' (C ++ (st d g (p - 1)).2).length c' ∧ 1 ≤ p ∧ p ≤ d + 1 ∧ Hid (LS w1 wi (.slice A' (C ++ (st d g (p - 1)).2).length c') (C ++ (st d g (p - 1)).2)) ∧ Hid (wi.rowIs b 4 g (fun j => .bool ((st d g (p - 1)).1 j)))) (fun _ P _ => d + 1 - (intOf P).toNat)
      case atStart => exact ⟨A, c, 1, rfl, by simp [st], Nat.le_refl _, by omega, by rw [show (st d g (1 - 1)).2 = [] from rfl, List.append_nil]; exact HS1.out, HR1.out⟩
      case round =>
        clear HS1 HR1
        obtain ⟨A', c', p, rfl, rfl, hp1, hp2, HL, HR⟩ := hrel
        by_cases hpd : p ≤ d
        · have hpdi : (p : Int) ≤ (d : Int) := by omega
          have hlc := st_len d g (p - 1)
          obtain ⟨r, hr⟩ : ∃ r, r = p % g := ⟨_, rfl⟩
          have hri : (p : Int) % (g : Int) = (r : Int) := by rw [hr]; exact (Int.natCast_emod p g).symm
          have hrg : r < g := by rw [hr]; exact Nat.mod_lt _ g1
          have hrgi : (r : Int) < (g : Int) := by omega
          have HG2 := Lib.hid (fun W => rgcdn_any p d W (by omega) d2)
          have hcs := HR.out.cell (i := r) hrg
          have hfz := HR.out.frozen r
          have hb1 : b < wr.heap.size := HR.out.lt
          have hp0 : 1 ≤ (p : Int) := by omega
          by_cases hg1 : Nat.gcd p d = 1
          · rw [hg1] at HG2
            cases hs : (st d g (p - 1)).1 r with
            | false =>
              rw [hs] at hcs
              have HY := Lib.hid (st_yes' hp1 hg1 (by rw [← hr]; exact hs))
              rw [← hr] at HY
              clear hg1 hs hr
              generalize st d g (p - 1) = S at *
              go_upto_region 17 with (first
                | (go_at_call 26; ((with_reducible refine (HG2.out _).mono ?_); rintro e w' ⟨rfl, n2, rfl⟩))
                | fail)
              have HL2 := Lib.hid ((HL.out.drewN n2).setSeen (i := r) (u := .bool true) (HR.out.of_block rfl) hsz1)
              have HR2 : Hid (((wr.drewN n2).setCell ⟨b, r, none⟩ (.bool true)).rowIs b 4 g (fun j => .bool ((st d g p).1 j))) := World.rowIs.congr (World.rowIs.set (w := wr.drewN n2) (HR.out.of_block rfl) r (.bool true)) (fun j _ => by rw [HY.out.2]; show _ = Value.bool (if j = r then true else S.1 j); split <;> rfl)
              obtain ⟨W2, hW2⟩ : ∃ W2, W2 = (wr.drewN n2).setCell ⟨b, r, none⟩ (.bool true) := ⟨_, rfl⟩
              rw [← hW2] at HL2 HR2 ⊢
              obtain ⟨Z, hZ⟩ : ∃ Z, Z = C ++ S.2 := ⟨_, rfl⟩
              have HZ2 : Hid (Z ++ [((p : Int), (d : Int))] = C ++ (st d g p).2) := by show _ = _; rw [HY.out.1, hZ, List.append_assoc]
              have hZ1 : Z.length ≤ 11200000 := by rw [hZ, List.length_append]; omega
              have hZl : C.length + S.2.length = Z.length := by rw [hZ, List.length_append]
              rw [← hZ] at HL2
              rw [hZl]
              clear hW2 HL HR hcs hfz HY hZ hZl hlc
              have hown := HL2.out.own
              have hsz2 := HL2.out.bel.size
              go_wp2_with (first
                | (at_builtin; (refine wpList_append_own _ rfl _ _ 42 rfl w1.heap.size 54 i0 (.agg #[.int .i64 0, .int .i64 0]) 2 16 Try.underlying42 hi z0 z1 z2 rfl (by decide) _ _ _ rfl (hown.alloc _) ⟨W2.heap.size, 0, none⟩ 1 1 [.int .i64 (p : Int), .int .i64 (d : Int)] rfl rfl (cell_two_new _ _ _ _) (fun x hx => by simp at hx; rcases hx with hx | hx <;> (rw [hx]; rfl)) (by unfold maxLen; omega) (by omega) (by simp; omega) ?_); intro v' w3 hown' hgrow3 hnil3; obtain ⟨A2, c2, rfl⟩ := own_len hown'; have HN := Lib.hid (HL2.out.app HR2.out hown' hgrow3); clear hown' hgrow3 hnil3)
                | fail)
              go_roundw
              case rel => exact ⟨A2, c2, p + 1, by go_num, by rw [show p + 1 - 1 = p from rfl, ← HZ2.out, List.length_append]; rfl, by omega, by omega, by rw [show p + 1 - 1 = p from rfl, ← HZ2.out, List.length_append]; have := HN.out.1; exact this, by rw [show p + 1 - 1 = p from rfl]; exact HN.out.2⟩
              case measure => simp [intOf]; omega
            | true =>
              rw [hs] at hcs
              have HN := Lib.hid (st_no' (d := d) (g := g) hp1 (fun h => by rw [← hr, hs] at h; cases h.2))
              clear hg1 hs hr
              go_wp2_with (first
                | (go_at_call 26; ((with_reducible refine (HG2.out _).mono ?_); rintro e w' ⟨rfl, n2, rfl⟩))
                | fail)
              go_roundw
              case rel => exact ⟨A', c', p + 1, by go_num, by rw [show p + 1 - 1 = p from rfl, HN.out, List.length_append], by omega, by omega, by rw [show p + 1 - 1 = p from rfl, HN.out]; exact HL.out.drewN n2, by rw [show p + 1 - 1 = p from rfl, HN.out]; exact HR.out.of_block rfl⟩
              case measure => simp [intOf]; omega
          · have HN := Lib.hid (st_no' (d := d) (g := g) hp1 (fun h => hg1 h.1))
            obtain ⟨z, hz⟩ : ∃ z : Int, z = (Nat.gcd p d : Nat) := ⟨_, rfl⟩
            have hz1 : ¬ z = 1 := by omega
            rw [← hz] at HG2
            clear hg1 hz hr
            go_wp2_with (first
              | (go_at_call 26; ((with_reducible refine (HG2.out _).mono ?_); rintro e w' ⟨rfl, n2, rfl⟩))
              | fail)
            go_roundw
            case rel => exact ⟨A', c', p + 1, by go_num, by rw [show p + 1 - 1 = p from rfl, HN.out, List.length_append], by omega, by omega, by rw [show p + 1 - 1 = p from rfl, HN.out]; exact HL.out.drewN n2, by rw [show p + 1 - 1 = p from rfl, HN.out]; exact HR.out.of_block rfl⟩
            case measure => simp [intOf]; omega
        · obtain rfl : p = d + 1 := by omega
          have hpd2 : (d : Int) < (d : Int) + 1 := by omega
          go_wp2
          go_roundw
          case rel => exact ⟨A', c', k + 1, by go_num, by rw [HOut.out, List.length_append]; simp, hlt, by rw [HOut.out]; exact HL.out⟩
          case measure => simp [intOf]; omega
    · obtain rfl : k = D.length := by omega
      have hn3 : ¬ (D.length : Int) < (D.length : Int) := by omega
      have hT : D.take D.length = D := List.take_length
      rw [hT] at HS ⊢
      go_wp2
      have e1 := HE.out
      subst e1
      refine bodyPost_ret (v := .tuple #[.slice A (outL n (dvN n)).length c, .int .i64 0]) ?_ rfl ⟨A, c, rfl, own_base HB.out.size HS.out.own, HB.out.trans (HS.out.bel.mono HB.out.size)⟩
      simp [results, Try.results11, go_sem, *]
set_option maxHeartbeats 1600000 in
theorem rlist0_bad (n : Int) (w : World) (hn : n < 1 ∨ 120 < n) :
    Calls Try.prog 11 #[.int .i64 n] w fun e w' => e = .returned (.tuple #[.slice none 0 0, .int .i64 2]) ∧ Below w.heap.size w w' := by
  have HC := Lib.hid (fun W => level0_any n W)
  rw [lv_no hn] at HC
  clear hn
  go_enter Try.func11, Try.ntmps11
  go_wp2_with (first
    | (go_at_call 23; ((with_reducible refine (HC.out _).mono ?_); rintro e w' ⟨rfl, rfl⟩))
    | fail)
  refine bodyPost_ret (v := .tuple #[.slice none 0 0, .int .i64 2]) ?_ rfl ⟨rfl, Below.refl _ _⟩
  simp [results, Try.results11, go_sem]
set_option maxHeartbeats 1600000 in
theorem list0_bad (n : Int) (w : World) (hn : n < 1 ∨ 120 < n) :
    Calls Try.prog 10 #[.int .i64 n] w fun e w' => e = .returned (.tuple #[.slice none 0 0, .int .i64 2]) ∧ Below w.heap.size w w' := by
  have HC := Lib.hid (fun W => check0_any n W)
  rw [lv_no hn] at HC
  clear hn
  go_enter Try.func10, Try.ntmps10
  go_wp2_with (first
    | (go_at_call 19; ((with_reducible refine (HC.out _).mono ?_); rintro e w' ⟨rfl, rfl⟩))
    | fail)
  refine bodyPost_ret (v := .tuple #[.slice none 0 0, .int .i64 2]) ?_ rfl ⟨rfl, Below.refl _ _⟩
  simp [results, Try.results10, go_sem]
set_option maxHeartbeats 1600000 in
theorem count0_bad (n : Int) (w : World) (hn : n < 1 ∨ 120 < n) :
    Calls Try.prog 8 #[.int .i64 n] w fun e w' => e = .returned (.tuple #[.int .i64 0, .int .i64 2]) ∧ Below w.heap.size w w' := by
  have HC := Lib.hid (fun W => check0_any n W)
  rw [lv_no hn] at HC
  clear hn
  go_enter Try.func8, Try.ntmps8
  go_wp2_with (first
    | (go_at_call 19; ((with_reducible refine (HC.out _).mono ?_); rintro e w' ⟨rfl, rfl⟩))
    | fail)
  refine bodyPost_ret (v := .tuple #[.int .i64 0, .int .i64 2]) ?_ rfl ⟨rfl, Below.refl _ _⟩
  simp [results, Try.results8, go_sem]
set_option maxHeartbeats 1600000 in
theorem rcount0_bad (n : Int) (w : World) (hn : n < 1 ∨ 120 < n) :
    Calls Try.prog 9 #[.int .i64 n] w fun e w' => e = .returned (.tuple #[.int .i64 0, .int .i64 2]) ∧ Below w.heap.size w w' := by
  have HC := Lib.hid (fun W => level0_any n W)
  rw [lv_no hn] at HC
  clear hn
  go_enter Try.func9, Try.ntmps9
  go_wp2_with (first
    | (go_at_call 23; ((with_reducible refine (HC.out _).mono ?_); rintro e w' ⟨rfl, rfl⟩))
    | fail)
  refine bodyPost_ret (v := .tuple #[.int .i64 0, .int .i64 2]) ?_ rfl ⟨rfl, Below.refl _ _⟩
  simp [results, Try.results9, go_sem]
end Go.Proofs.Ytdgfdbifeopiaaa
namespace Go.Proofs.Ytdgfdbifeopiaaa
open Go.RowKit
set_option linter.unusedVariables false
set_option linter.unusedSimpArgs false

def ck1Ok (n : Nat) : Bool := n == 0 || ckxI 1 (n : Int) == 0
set_option maxRecDepth 100000 in
theorem ck1_all : (List.range 121).all ck1Ok = true := by decide +kernel
theorem ck1_zero {n : Nat} (n1 : 1 ≤ n) (n2 : n ≤ 120) : ckxI 1 (n : Int) = 0 := by
  have h := List.all_eq_true.1 ck1_all n (List.mem_range.2 (by omega))
  unfold ck1Ok at h
  rw [Bool.or_eq_true, beq_iff_eq, beq_iff_eq] at h
  rcases h with h | h
  · omega
  · exact h
theorem g0_zz {k : Nat} (k1 : 1 ≤ k) {i : Nat} (hi : i < (V1 k).length) : fnz (iz (srun (kc1 (k : Int)) (V1 k).length).S) (fnz (iz (srun (kc1 (k : Int)) (V1 k).length).S) i) = i := by
  have hF := kfin1 k1
  have hC := g0_cos k1
  have hS := fun {x : M4} (hx : dtM x = 1) => hF.atS hC hx (g0_mem k1 hx)
  have hdS := fun {x : M4} (hx : dtM x = 1) => show dtM (mS x) = 1 by rw [dtM_S]; exact hx
  have hx := hF.dL hi
  have hi' := hF.pl_L hi
  rw [← hi', hS hx, hS (hdS hx), g0_pl k1 (hdS (hdS hx)) hx]
  generalize (srun (kc1 (k : Int)) (V1 k).length).L.getD i (0, 0, 0, 0) = x
  refine ⟨0, ?_⟩
  show -x.2.2.1 * x.2.2.2 - x.2.2.1 * -x.2.2.2 = _
  grind
/-- The same search, its marks a list. -/
def st2 (d g : Nat) : Nat → List Nat × Nat
  | 0 => ([], 0)
  | t + 1 => match st2 d g t with
    | (s, k) => if (Nat.gcd (t + 1) d == 1 && !(s.contains ((t + 1) % g))) = true then ((t + 1) % g :: s, k + 1) else (s, k)
theorem st2_eq (d g : Nat) : ∀ t, (∀ j, (st d g t).1 j = (st2 d g t).1.contains j) ∧ (st d g t).2.length = (st2 d g t).2
  | 0 => ⟨fun j => by simp [st, st2], by simp [st, st2]⟩
  | t + 1 => by
    obtain ⟨h1, h2⟩ := st2_eq d g t
    rw [st2]
    generalize st2 d g t = S at *
    obtain ⟨s, k⟩ := S
    by_cases h : Nat.gcd (t + 1) d = 1 ∧ (st d g t).1 ((t + 1) % g) = false
    · obtain ⟨e1, e2⟩ := st_yes h.1 h.2
      have hc : (Nat.gcd (t + 1) d == 1 && !(s.contains ((t + 1) % g))) = true := by
        rw [Bool.and_eq_true, beq_iff_eq]; exact ⟨h.1, by rw [← h1, h.2]; rfl⟩
      simp only [if_pos hc]
      rw [e1, e2]
      refine ⟨fun j => ?_, by rw [List.length_append, h2]; rfl⟩
      rw [List.contains_cons]
      show (if j = (t + 1) % g then true else (st d g t).1 j) = _
      by_cases hj : j = (t + 1) % g
      · rw [if_pos hj, hj]; simp
      · rw [if_neg hj, h1]
        have : (j == (t + 1) % g) = false := by rw [beq_eq_false_iff_ne]; exact hj
        rw [this, Bool.false_or]
    · have hc : ¬ (Nat.gcd (t + 1) d == 1 && !(s.contains ((t + 1) % g))) = true := by
        rw [Bool.and_eq_true, beq_iff_eq]
        rintro ⟨a, b⟩
        refine h ⟨a, ?_⟩
        rw [h1]; simpa using b
      simp only [if_neg hc]
      rw [st_no h]
      exact ⟨h1, h2⟩
theorem g0_cls {n : Nat} (n1 : 1 ≤ n) (n2 : n ≤ 120) : chkA (olS 1 (n : Int)) (olT 1 (n : Int)) = 0 ∧ (clP (olS 1 (n : Int)) (olT 1 (n : Int))).length = cuV n := by
  have hc := ck1_zero n1 n2
  have ha := ol_act hc
  have h0 := chkA_ok ha
  refine ⟨h0, ?_⟩
  have hcl := clP_ok h0
  have hcu : (clP (olS 1 (n : Int)) (olT 1 (n : Int))).length = cuZ (fnz (olS 1 (n : Int))) (fnz (olT 1 (n : Int))) (olS 1 (n : Int)).length := by rw [hcl]; rfl
  rw [hcu]
  exact (g0_all n1 n2 hc).2.2.2
def ltot (n : Nat) : List Nat → Nat
  | [] => 0
  | d :: l => (st2 d (Nat.gcd d (n / d)) d).2 + ltot n l
theorem ltot_eq (n : Nat) : ∀ D, (outL n D).length = ltot n D
  | [] => rfl
  | d :: D => by
    have : outL n (d :: D) = outD n d ++ outL n D := by unfold outL; simp
    rw [this, List.length_append, ltot_eq n D, ltot, outD, (st2_eq d _ d).2]
def ltOk (n : Nat) : Bool := n == 0 || ltot n (dvN n) == cuV n
set_option maxRecDepth 100000 in
theorem lt_all : (List.range 121).all ltOk = true := by decide +kernel
theorem l0_len {n : Nat} (n1 : 1 ≤ n) (n2 : n ≤ 120) : (outL n (dvN n)).length = cuV n := by
  have h := List.all_eq_true.1 lt_all n (List.mem_range.2 (by omega))
  unfold ltOk at h
  rw [Bool.or_eq_true, beq_iff_eq, beq_iff_eq] at h
  rcases h with h | h
  · omega
  · rw [ltot_eq]; exact h
end Go.Proofs.Ytdgfdbifeopiaaa
namespace Go.Proofs.Ytdgfdbifeopiaaa
open Go.RowKit
set_option linter.unusedVariables false
set_option linter.unusedSimpArgs false

set_option maxHeartbeats 6400000 in
set_option maxRecDepth 1000000 in
theorem clst_walk (n : Int) (w : World) :
    Calls Try.prog 4 #[.int .i64 n] w fun e w' => e = .returned (.bool true) ∧ Below w.heap.size w w' := by
  by_cases hn : n < 1 ∨ 120 < n
  · have HC1 := Lib.hid (fun W => count0_bad n W hn)
    have HC2 := Lib.hid (fun W => rcount0_bad n W hn)
    have HL1 := Lib.hid (fun W => list0_bad n W hn)
    have HL2 := Lib.hid (fun W => rlist0_bad n W hn)
    have HSm : Hid (∀ W, Calls Try.prog 12 #[.slice none 0 0, .slice none 0 0] W fun e w' => e = .returned (.bool true) ∧ ∃ n, w' = W.drewN n) := fun W => same_any (l := []) W (rdc_nil W 0) (rdc_nil W 0)
    clear hn
    go_enter Try.func4, Try.ntmps4
    go_upto_region 7 with (first
      | (go_at_call 5; ((with_reducible refine (awake_any _).mono ?_); rintro e w1 ⟨rfl, hb⟩; have HB1 := Lib.hid hb; clear hb))
      | (go_at_call 8; ((with_reducible refine (HC1.out _).mono ?_); rintro e w2 ⟨rfl, hb⟩; have HB2 := Lib.hid (bel0 HB1.out hb); clear hb))
      | (go_at_call 9; ((with_reducible refine (HC2.out _).mono ?_); rintro e w3 ⟨rfl, hb⟩; have HB3 := Lib.hid (bel0 HB2.out hb); clear hb))
      | (go_at_call 10; ((with_reducible refine (HL1.out _).mono ?_); rintro e w4 ⟨rfl, hb⟩; have HB4 := Lib.hid (bel0 HB3.out hb); clear hb))
      | (go_at_call 11; ((with_reducible refine (HL2.out _).mono ?_); rintro e w5 ⟨rfl, hb⟩; have HB5 := Lib.hid (bel0 HB4.out hb); clear hb))
      | fail)
    clear HC1 HC2 HL1 HL2 HB1 HB2 HB3 HB4
    go_wp2_with (first
      | (go_at_call 12; ((with_reducible refine (HSm.out _).mono ?_); rintro e w6 ⟨rfl, m6, hw⟩; have HB6 : Hid (Below w.heap.size w w6) := (by rw [hw]; exact below_drewN HB5.out _); clear hw))
      | fail)
    go_ret
    exact ⟨rfl, HB6.out⟩
  · obtain ⟨m, rfl⟩ : ∃ m : Nat, n = (m : Nat) := ⟨n.toNat, by omega⟩
    have m1 : 1 ≤ m := by omega
    have m2 : m ≤ 120 := by omega
    have HC1 := Lib.hid (fun W => count0_any m W m1 (by omega))
    have HC2 := Lib.hid (fun W => rcount0_any m W m1 (by omega))
    have HL1 : Hid (∀ W, Calls Try.prog 10 #[.int .i64 (m : Int)] W fun e w' => ∃ A c, e = .returned (.tuple #[.slice A (outL m (dvN m)).length c, .int .i64 0]) ∧ RdC w' w'.heap.size A c (outL m (dvN m)) ∧ Below W.heap.size W w') := fun W => by
      refine (list0_any m W m1 (by omega)).mono ?_
      rintro e w' ⟨M, A, c, rfl, hd, ho, hb⟩
      rw [sorted_dvN hd m1] at ho ⊢
      exact ⟨A, c, rfl, own_rdc ho, hb⟩
    have HL2 : Hid (∀ W, Calls Try.prog 11 #[.int .i64 (m : Int)] W fun e w' => ∃ A c, e = .returned (.tuple #[.slice A (outL m (dvN m)).length c, .int .i64 0]) ∧ RdC w' w'.heap.size A c (outL m (dvN m)) ∧ Below W.heap.size W w') := fun W => by
      refine (rlist0_any m W m1 (by omega)).mono ?_
      rintro e w' ⟨A, c, rfl, ho, hb⟩
      exact ⟨A, c, rfl, own_rdc ho, hb⟩
    obtain ⟨hk1, hk2⟩ := g0_cls m1 m2
    have hll := l0_len m1 m2
    have HOf := Lib.hid (fun W => of_ok (ck1_zero m1 m2) W)
    have HCl : Hid (∀ (W : World) B A c A' c', RdZ W B A c (olS 1 (m : Int)) → RdZ W B A' c' (olT 1 (m : Int)) → B ≤ W.heap.size → Calls Try.prog 7 #[.agg #[.slice A (olS 1 (m : Int)).length c, .slice A' (olT 1 (m : Int)).length c']] W fun e w' => ∃ A c, e = .returned (.tuple #[.slice A (cuV m) c, .int .i64 0]) ∧ Below W.heap.size W w') := fun W B A c A' c' h1 h2 hB => by
      have := cclasses_any W h1 h2 hB
      rw [hk1, hk2] at this
      refine this.mono ?_
      rintro e w' ⟨A1, c1, rfl, _, hb⟩
      exact ⟨A1, c1, rfl, hb⟩
    have hcv := cuV_le m1 m2
    clear hn m1 m2 hk1 hk2
    have HSm := Lib.hid (fun (W : World) (B1 B2 : Nat) A1 A2 c1 c2 (h1 : RdC W B1 A1 c1 (outL m (dvN m))) (h2 : RdC W B2 A2 c2 (outL m (dvN m))) => same_any W h1 h2)
    rw [hll] at HL1 HL2 HSm
    generalize outL m (dvN m) = L at *
    generalize cuV m = cu at *
    generalize olS 1 (m : Int) = lS at *
    generalize olT 1 (m : Int) = lT at *
    have hcu : (cu : Int) ≤ 20000 := by omega
    clear hcv hll
    go_enter Try.func4, Try.ntmps4
    go_upto_region 7 with (first
      | (go_at_call 5; ((with_reducible refine (awake_any _).mono ?_); rintro e w1 ⟨rfl, hb⟩; have HB1 := Lib.hid hb; clear hb))
      | (go_at_call 8; ((with_reducible refine (HC1.out _).mono ?_); rintro e w2 ⟨rfl, hb⟩; have HB2 := Lib.hid (bel0 HB1.out hb); clear hb))
      | (go_at_call 9; ((with_reducible refine (HC2.out _).mono ?_); rintro e w3 ⟨rfl, hb⟩; have HB3 := Lib.hid (bel0 HB2.out hb); clear hb))
      | (go_at_call 10; ((with_reducible refine (HL1.out _).mono ?_); rintro e w4 ⟨A4, c4, rfl, hr, hb⟩; have HB4 := Lib.hid (bel0 HB3.out hb); have R4 := Lib.hid hr; clear hb hr))
      | (go_at_call 11; ((with_reducible refine (HL2.out _).mono ?_); rintro e w5 ⟨A5, c5, rfl, hr, hb⟩; have HB5 := Lib.hid (bel0 HB4.out hb); have HC := Lib.hid (HSm.out w5 _ _ _ _ _ _ (R4.out.below hb) hr); clear hb hr))
      | fail)
    clear HC1 HC2 HL1 HL2 HSm HB1 HB2 HB3 HB4
    go_wp2_with (first
      | (go_at_call 12; ((with_reducible refine HC.out.mono ?_); rintro e w6 ⟨rfl, m6, hw⟩; have HB6 : Hid (Below w.heap.size w w6) := (by rw [hw]; exact below_drewN HB5.out _); clear hw))
      | (go_at_call 6; ((with_reducible refine (HOf.out _).mono ?_); rintro e w7 ⟨AS, cS, AT, cT, rfl, hrS, hrT, hb⟩; have HB7 := Lib.hid (bel0 HB6.out hb); have HD := Lib.hid (HCl.out (w7.alloc (.cells #[.slice AS lS.length cS, .slice AT lT.length cT] 25)) w7.heap.size AS cS AT cT (hrS.below (below1 w7 _)) (hrT.below (below1 w7 _)) (by simp)); clear hrS hrT hb))
      | (go_at_call 7; ((with_reducible refine HD.out.mono ?_); rintro e w8 ⟨A1, c1, rfl, hb⟩; have HB8 := Lib.hid (bel0 (HB7.out.alloc HB7.out.size (.cells #[.slice AS lS.length cS, .slice AT lT.length cT] 25)) hb); clear hb))
      | fail)
    go_ret
    exact ⟨rfl, HB8.out⟩
end Go.Proofs.Ytdgfdbifeopiaaa
