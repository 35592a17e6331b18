/- Plain mathematics: of the groups Gamma1(n) only Gamma1(4) has an irregular cusp, and that has one. Plain mathematics: the signature of the coset action of Gamma0(n), by sums over the projective line. The signature of the action of Gamma1(k), by sums over the rows. The contracts of the reference's formula of Gamma0(n): Divisors, Phi, Count0, Psi, symbol, product. The contracts of the reference's Count0, Psi, symbol, product and Formula0. The contract of the reference's Psi. The contract of the reference's symbol. The contract of the reference's product. The contracts of the reference's Formula0 and the project's Genus0. The signature of Gamma1(k)'s action, for k to 24, is the formula's. The project's Formula1, for every level. The reference's Formula1, for every level. The reference's Formula1 from 5 on. SignatureGamma1. -/
import Derived.Test.YtmikhkolbkdnpaaSgF
import Derived.Test.YtmikhkolbkdnpaaSigM
import Derived.Test.YtmikhkolbkdnpaaClaM
import Derived.Test.YtmikhkolbkdnpaaSgnA
import Derived.Test.YtmikhkolbkdnpaaOfR
import Derived.Test.YtmikhkolbkdnpaaLawR
import Derived.Test.YtmikhkolbkdnpaaHeadT
import Derived.Deep.DeepCutAuto
import Derived.Deep.CutBlock
import Derived.Deep.RegionHeld3
import Derived.IntWalk
import Derived.Deep.AppendLies
namespace Go.Proofs.Ytmikhkolbkdnpaa
set_option linter.unusedVariables false

/-- How many of the classes are irregular. -/
def irN (R : Nat → Bool) (P : List Nat) : Nat := (P.filter fun p => !R p).length
theorem irN_succ (R : Nat → Bool) (P : List Nat) (k : Nat) (h : k < P.length) : irN R (P.take (k + 1)) = irN R (P.take k) + (if R P[k] = true then 0 else 1) := by
  unfold irN
  rw [List.take_add_one, List.getElem?_eq_getElem h, Option.toList_some, List.filter_append, List.length_append]
  cases e : R P[k] <;> simp [e]
theorem irN_le (R : Nat → Bool) (P : List Nat) : irN R P ≤ P.length := List.length_filter_le _ _
/-- When a cusp is irregular. -/
theorem rgN_iff {S T : List Int} (ha : Act2 S T) {p : Nat} (hp : p < S.length) : (!rgF S T p) = true ↔ mnB S = false ∧ onC (fnz T) p (fnz S (fnz S p)) := by
  cases hm : mnB S with
  | true => rw [(rg_minus ha hp hm).1]; simp
  | false =>
    have hz := rel_inv ha.ps ha.pt ha.rel
    have h1 := (perO_spec ha.pt hp).1
    have h2 := Inv2.per ha.pt hz hp h1
    have h3 := (perO_spec ha.pt (hz.lt p hp)).1
    have e : perO (fnz T) S.length (fnz S (fnz S p)) = perO (fnz T) S.length p := h3.uniq h2
    have c1 := h1.pos
    have hw : wdF S T p = wid0 (fnz T) (fun i => fnz S (fnz S i)) S.length p / 2 := (rg_other ha hp hm).2
    have hr : rgF S T p = decide (perO (fnz T) S.length p = wdF S T p) := rfl
    rw [hr, hw]
    unfold wid0
    by_cases hc : (cyL (fnz T) p (perO (fnz T) S.length p)).contains (fnz S (fnz S p)) = true
    · have ho := (cy_on ha.pt hp).1 hc
      rw [if_pos hc, Nat.add_zero, decide_eq_false (by omega)]
      exact ⟨fun _ => ⟨rfl, ho⟩, fun _ => rfl⟩
    · rw [if_neg hc, e, decide_eq_true (by omega)]
      exact ⟨fun h => by simp at h, fun h => absurd ((cy_on ha.pt hp).2 h.2) hc⟩
/-- x T^w. -/
def twQ : Nat → M4 → M4
  | 0, x => x
  | w + 1, x => mT (twQ w x)
theorem twQ_dt {x : M4} (hx : dtM x = 1) : ∀ w, dtM (twQ w x) = 1
  | 0 => hx
  | w + 1 => by show dtM (mT (twQ w x)) = 1; rw [dtM_T]; exact twQ_dt hx w
theorem twQ_row (x : M4) : ∀ w : Nat, (twQ w x).2.2.1 = x.2.2.1 ∧ (twQ w x).2.2.2 = x.2.2.2 + (w : Int) * x.2.2.1
  | 0 => ⟨rfl, by show x.2.2.2 = _; simp⟩
  | w + 1 => by
    obtain ⟨h1, h2⟩ := twQ_row x w
    refine ⟨h1, ?_⟩
    show (twQ w x).2.2.1 + (twQ w x).2.2.2 = _
    rw [h1, h2, Int.natCast_add, Int.add_mul]
    omega
theorem kco_two (n : Int) : kco 2 n = kc2 n := by unfold kco; simp
theorem kc2_iff {n : Int} {x y : M4} : kc2 n x = kc2 n y ↔ n ∣ x.2.2.1 - y.2.2.1 ∧ n ∣ x.2.2.2 - y.2.2.2 := by
  unfold kc2
  simp only [Prod.mk.injEq, mod_iff, and_true]
section
variable {n : Int} (hc : ckxI 2 n = 0) (n1 : 1 ≤ n)
include hc
theorem g1_len : (olS 2 n).length = idxN 2 n.toNat := by have _h := hc; unfold olS; rw [iz_len]; exact (srun_len _ _).2.1
theorem g1_fin : SFin (kco 2 n) (idxN 2 n.toNat) := (ckx_kf hc).1.fin
theorem g1_mem {x : M4} (hx : dtM x = 1) : kco 2 n x ∈ (srun (kco 2 n) (idxN 2 n.toNat)).K := SFin.all (ckx_kf hc).1.cos (ckx_kf hc).1.fin hx
theorem g1_lt {x : M4} (hx : dtM x = 1) : plC (kco 2 n) (idxN 2 n.toNat) x < (olS 2 n).length := by rw [g1_len hc]; exact (g1_fin hc).pl_lt (g1_mem hc hx)
theorem g1_S {x : M4} (hx : dtM x = 1) : fnz (olS 2 n) (plC (kco 2 n) (idxN 2 n.toNat) x) = plC (kco 2 n) (idxN 2 n.toNat) (mS x) := (g1_fin hc).atS (ckx_kf hc).1.cos hx (g1_mem hc hx)
theorem g1_T {x : M4} (hx : dtM x = 1) : ∀ w, itr (fnz (olT 2 n)) w (plC (kco 2 n) (idxN 2 n.toNat) x) = plC (kco 2 n) (idxN 2 n.toNat) (twQ w x)
  | 0 => rfl
  | w + 1 => by
    show fnz _ (itr _ w _) = _
    rw [g1_T hx w]
    exact (g1_fin hc).atT (ckx_kf hc).1.cos (twQ_dt hx w) (g1_mem hc (twQ_dt hx w))
theorem g1_pl {x y : M4} (hx : dtM x = 1) (hy : dtM y = 1) : plC (kco 2 n) (idxN 2 n.toNat) x = plC (kco 2 n) (idxN 2 n.toNat) y ↔ n ∣ x.2.2.1 - y.2.2.1 ∧ n ∣ x.2.2.2 - y.2.2.2 := by
  rw [← kc2_iff, ← kco_two]
  refine ⟨fun e => (g1_fin hc).pl_inj (g1_mem hc hx) (g1_mem hc hy) e, fun e => ?_⟩
  show List.idxOf _ _ = List.idxOf _ _
  rw [e]
theorem g1_onto {p : Nat} (hp : p < (olS 2 n).length) : ∃ x, dtM x = 1 ∧ plC (kco 2 n) (idxN 2 n.toNat) x = p := by
  rw [g1_len hc] at hp
  exact ⟨_, (g1_fin hc).dL hp, (g1_fin hc).pl_L hp⟩
theorem g1_SS {x : M4} (hx : dtM x = 1) : fnz (olS 2 n) (fnz (olS 2 n) (plC (kco 2 n) (idxN 2 n.toNat) x)) = plC (kco 2 n) (idxN 2 n.toNat) (mS (mS x)) := by
  rw [g1_S hc hx, g1_S hc (by rw [dtM_S]; exact hx)]
theorem g1_on {x y : M4} (hx : dtM x = 1) (hy : dtM y = 1) : onC (fnz (olT 2 n)) (plC (kco 2 n) (idxN 2 n.toNat) x) (plC (kco 2 n) (idxN 2 n.toNat) y) ↔ ∃ w : Nat, n ∣ x.2.2.1 - y.2.2.1 ∧ n ∣ x.2.2.2 + (w : Int) * x.2.2.1 - y.2.2.2 := by
  unfold onC
  constructor
  · rintro ⟨w, e⟩
    rw [g1_T hc hx w, g1_pl hc (twQ_dt hx w) hy, (twQ_row x w).1, (twQ_row x w).2] at e
    exact ⟨w, e⟩
  · rintro ⟨w, e⟩
    refine ⟨w, ?_⟩
    rw [g1_T hc hx w, g1_pl hc (twQ_dt hx w) hy, (twQ_row x w).1, (twQ_row x w).2]
    exact e
omit hc in
theorem mSS_row (x : M4) : (mS (mS x)).2.2.1 = -x.2.2.1 ∧ (mS (mS x)).2.2.2 = -x.2.2.2 := ⟨rfl, rfl⟩
omit hc in
theorem mSS_dt {x : M4} (hx : dtM x = 1) : dtM (mS (mS x)) = 1 := by rw [dtM_S, dtM_S]; exact hx
/-- The point of a matrix lies over an irregular cusp. -/
theorem g1_ir {x : M4} (hx : dtM x = 1) : (!rgF (olS 2 n) (olT 2 n) (plC (kco 2 n) (idxN 2 n.toNat) x)) = true ↔ mnB (olS 2 n) = false ∧ ∃ w : Nat, n ∣ 2 * x.2.2.1 ∧ n ∣ 2 * x.2.2.2 + (w : Int) * x.2.2.1 := by
  rw [rgN_iff (ol_act hc) (g1_lt hc hx), g1_SS hc hx, g1_on hc hx (mSS_dt hx), (mSS_row x).1, (mSS_row x).2]
  have e : ∀ w : Nat, x.2.2.1 - -x.2.2.1 = 2 * x.2.2.1 ∧ x.2.2.2 + (w : Int) * x.2.2.1 - -x.2.2.2 = 2 * x.2.2.2 + (w : Int) * x.2.2.1 := fun w => ⟨by omega, by omega⟩
  simp only [fun w => (e w).2, (e 0).1]
theorem g1_zero : plC (kco 2 n) (idxN 2 n.toNat) (1, 0, 0, 1) = 0 := by
  have h := (g1_fin hc).pl_L (j := 0) (by have := (ol_act hc).pos; rw [g1_len hc] at this; omega)
  rwa [(g1_fin hc).ri.first] at h
theorem g1_mn : mnB (olS 2 n) = decide (n ∣ 2) := by
  have h1 : dtM (1, 0, 0, 1) = 1 := by decide
  have e : fnz (olS 2 n) (fnz (olS 2 n) 0) = 0 ↔ n ∣ 2 := by
    have h2 := g1_SS hc h1
    have h3 := g1_pl hc (mSS_dt h1) h1
    rw [g1_zero hc] at h2 h3
    rw [h2, h3]
    show n ∣ -0 - 0 ∧ n ∣ -1 - 1 ↔ _
    constructor
    · rintro ⟨_, r, hr⟩; exact ⟨-r, by grind⟩
    · rintro ⟨r, hr⟩; exact ⟨⟨0, by omega⟩, -r, by grind⟩
  unfold mnB
  exact decide_eq_decide.2 e
include n1 in
theorem g1_four {x : M4} (hx : dtM x = 1) (h : (!rgF (olS 2 n) (olT 2 n) (plC (kco 2 n) (idxN 2 n.toNat) x)) = true) : n = 4 := by
  obtain ⟨hm, w, ⟨p, hp⟩, ⟨q, hq⟩⟩ := (g1_ir hc hx).1 h
  rw [g1_mn hc] at hm
  have h2 : ¬ n ∣ 2 := by simpa using hm
  have h4 : n ∣ 4 := by
    have hd : x.1 * x.2.2.2 - x.2.1 * x.2.2.1 = 1 := hx
    exact ⟨x.1 * (2 * q - w * p) - 2 * x.2.1 * p, by grind⟩
  have hle := Int.le_of_dvd (by omega) h4
  have : n = 1 ∨ n = 2 ∨ n = 3 ∨ n = 4 := by omega
  rcases this with rfl | rfl | rfl | rfl
  · exact absurd (by decide) h2
  · exact absurd (by decide) h2
  · exact absurd h4 (by decide)
  · rfl
end
theorem g1_ir4 (hc : ckxI 2 4 = 0) {x : M4} (hx : dtM x = 1) : (!rgF (olS 2 4) (olT 2 4) (plC (kco 2 4) (idxN 2 (4 : Int).toNat) x)) = true ↔ x.2.2.1 % 4 = 2 := by
  rw [g1_ir hc hx, g1_mn hc]
  have hd : x.1 * x.2.2.2 - x.2.1 * x.2.2.1 = 1 := hx
  generalize x.1 = a at *
  generalize x.2.1 = b at *
  generalize x.2.2.1 = c at *
  generalize x.2.2.2 = d at *
  have odd : c % 2 = 0 → d % 2 = 1 := fun h => by
    rcases Int.emod_two_eq d with e | e
    · exfalso
      obtain ⟨c', rfl⟩ := Int.dvd_of_emod_eq_zero h
      obtain ⟨d', rfl⟩ := Int.dvd_of_emod_eq_zero e
      have : 2 * (a * d' - b * c') = 1 := by rw [← hd]; grind
      omega
    · exact e
  constructor
  · rintro ⟨_, w, h1, h2⟩
    have hc2 : c % 2 = 0 := by omega
    have hd2 := odd hc2
    rcases (show c % 4 = 0 ∨ c % 4 = 2 by omega) with e | e
    · exfalso
      obtain ⟨c', rfl⟩ := Int.dvd_of_emod_eq_zero e
      obtain ⟨r, hr⟩ := h2
      have : 2 * d = 4 * (r - w * c') := by grind
      omega
    · exact e
  · intro h
    have hd2 := odd (by omega)
    exact ⟨by decide, 1, by omega, by omega⟩
/-- Of the groups Gamma1(n) only Gamma1(4) has an irregular cusp, and that has one. -/
theorem g1_irr {n : Int} (hc : ckxI 2 n = 0) (n1 : 1 ≤ n) : irN (rgF (olS 2 n) (olT 2 n)) (clP (olS 2 n) (olT 2 n)) = if n = 4 then 1 else 0 := by
  have ha := ol_act hc
  have hz := rel_inv ha.ps ha.pt ha.rel
  have hR := cst_reps ha.pt hz
  have hclP : clP (olS 2 n) (olT 2 n) = (cst (uB (fnz (olT 2 n)) (fun i => fnz (olS 2 n) (fnz (olS 2 n) i)) (olS 2 n).length) (olS 2 n).length).2 := clP_ok (chkA_ok ha)
  rw [hclP]
  unfold irN
  by_cases h4 : n = 4
  · subst h4
    rw [if_pos rfl]
    have hlen : ∀ {l : List Nat}, l.Nodup → (∀ p ∈ l, ∀ q ∈ l, p = q) → (∃ p, p ∈ l) → l.length = 1 := fun {l} hn hall hex => by
      match l, hn, hall, hex with
      | [], _, _, ⟨p, hp⟩ => simp at hp
      | [a], _, _, _ => rfl
      | a :: b :: l, hn, hall, _ =>
        have := hall a (by simp) b (by simp)
        subst this
        simp at hn
    refine hlen (hR.nd.filter _) (fun p hp q hq => ?_) ?_
    · obtain ⟨hp1, hp2⟩ := List.mem_filter.1 hp
      obtain ⟨hq1, hq2⟩ := List.mem_filter.1 hq
      obtain ⟨x, hx, rfl⟩ := g1_onto hc (hR.lt p hp1)
      obtain ⟨y, hy, rfl⟩ := g1_onto hc (hR.lt q hq1)
      have e1 := (g1_ir4 hc hx).1 hp2
      have e2 := (g1_ir4 hc hy).1 hq2
      refine hR.one _ hp1 _ hq1 ?_
      show uB _ _ _ _ _ = true
      rw [uB_iff ha.pt hz (g1_lt hc hx)]
      left
      rw [g1_on hc hx hy]
      have dx : x.1 * x.2.2.2 - x.2.1 * x.2.2.1 = 1 := hx
      have dy : y.1 * y.2.2.2 - y.2.1 * y.2.2.1 = 1 := hy
      have od : ∀ {a b c d : Int}, a * d - b * c = 1 → c % 4 = 2 → d % 2 = 1 := fun {a b c d} hd h => by
        rcases Int.emod_two_eq d with e | e
        · exfalso
          obtain ⟨c', rfl⟩ := Int.dvd_of_emod_eq_zero (show c % 2 = 0 by omega)
          obtain ⟨d', rfl⟩ := Int.dvd_of_emod_eq_zero e
          have : 2 * (a * d' - b * c') = 1 := by rw [← hd]; grind
          omega
        · exact e
      have o1 := od dx e1
      have o2 := od dy e2
      by_cases hs : (x.2.2.2 - y.2.2.2) % 4 = 0
      · exact ⟨0, by omega, by omega⟩
      · exact ⟨1, by omega, by omega⟩
    · have h1 : dtM (1, 0, 2, 1) = 1 := by decide
      obtain ⟨r, hr, hu⟩ := hR.all _ (g1_lt hc h1)
      refine ⟨r, List.mem_filter.2 ⟨hr, ?_⟩⟩
      obtain ⟨x, hx, rfl⟩ := g1_onto hc (hR.lt r hr)
      rw [g1_ir4 hc hx]
      have hu : uB _ _ _ _ _ = true := hu
      rw [uB_iff ha.pt hz (g1_lt hc hx)] at hu
      rcases hu with hu | hu
      · obtain ⟨w, h2, h3⟩ := (g1_on hc hx h1).1 hu
        have h2 : (4 : Int) ∣ x.2.2.1 - 2 := h2
        omega
      · have hu : onC (fnz (olT 2 4)) (fnz (olS 2 4) (fnz (olS 2 4) (plC (kco 2 4) (idxN 2 (4 : Int).toNat) x))) (plC (kco 2 4) (idxN 2 (4 : Int).toNat) (1, 0, 2, 1)) := hu
        rw [g1_SS hc hx] at hu
        obtain ⟨w, h2, h3⟩ := (g1_on hc (mSS_dt hx) h1).1 hu
        have h2 : (4 : Int) ∣ -x.2.2.1 - 2 := h2
        omega
  · rw [if_neg h4]
    have : (cst (uB (fnz (olT 2 n)) (fun i => fnz (olS 2 n) (fnz (olS 2 n) i)) (olS 2 n).length) (olS 2 n).length).2.filter (fun p => !rgF (olS 2 n) (olT 2 n) p) = [] := by
      rw [List.filter_eq_nil_iff]
      intro p hp hn
      obtain ⟨x, hx, rfl⟩ := g1_onto hc (hR.lt p hp)
      exact h4 (g1_four hc n1 hx hn)
    rw [this]
    rfl
end Go.Proofs.Ytmikhkolbkdnpaa
namespace Go.Proofs.Ytmikhkolbkdnpaa
set_option linter.unusedVariables false

theorem kc1_iffP {n : Int} (n1 : 1 ≤ n) {x y : M4} (hx : dtM x = 1) (hy : dtM y = 1) : kc1 n x = kc1 n y ↔ n ∣ x.2.2.1 * y.2.2.2 - y.2.2.1 * x.2.2.2 := by
  obtain ⟨a, b, c, d⟩ := x
  obtain ⟨a', b', c', d'⟩ := y
  simp only [dtM] at hx hy
  show ((nfU n c d, nfV n c d, 0, 0) : K4) = (nfU n c' d', nfV n c' d', 0, 0) ↔ n ∣ c * d' - c' * d
  rw [nfk_iff n1]
  constructor
  · rintro ⟨s, hs, ⟨p, hp⟩, ⟨q, hq⟩⟩
    exact ⟨p * d - c * q, by grind⟩
  · rintro ⟨r, hr⟩
    refine ⟨a * d' - b * c', ?_, ⟨a * r, by grind⟩, ⟨b * r, by grind⟩⟩
    have e : ∃ u v : Int, u * (a * d' - b * c') + v * n = 1 := ⟨a' * d - b' * c, (a * b' - b * a') * r, by grind⟩
    obtain ⟨u, v, e⟩ := e
    have h1 : ((Int.gcd (a * d' - b * c') n : Nat) : Int) ∣ 1 := by
      rw [← e]
      exact Int.dvd_add (Int.dvd_mul_of_dvd_right (Int.gcd_dvd_left ..)) (Int.dvd_mul_of_dvd_right (Int.gcd_dvd_right ..))
    have h2 := Int.natAbs_dvd_natAbs.2 h1
    simpa using h2
/-- A sum over the places of a list. -/
theorem smB_shift (h : Nat → Nat) : ∀ n, smB h (n + 1) = h 0 + smB (fun i => h (i + 1)) n
  | 0 => by simp [smB]
  | n + 1 => by rw [smB, smB_shift h n, smB]; omega
theorem smB_list {α : Type} (d : α) (W : α → Nat) : ∀ l : List α, smB (fun q => W (l.getD q d)) l.length = (l.map W).sum
  | [] => rfl
  | a :: l => by
    rw [List.length_cons, smB_shift, List.map_cons, List.sum_cons, ← smB_list d W l]
    rfl
theorem cntB_smB (t : Nat → Bool) : ∀ n, cntB t n = smB (fun i => if t i = true then 1 else 0) n
  | 0 => rfl
  | n + 1 => by rw [cntB, smB, cntB_smB t n]
theorem smB_scale (t : Nat → Bool) (c : Nat) : ∀ n, smB (fun i => if t i = true then c else 0) n = c * cntB t n
  | 0 => rfl
  | n + 1 => by
    rw [smB, cntB, smB_scale t c n, Nat.mul_add]
    cases t n <;> simp
/-- An action whose -1 does nothing is its own projective action. -/
theorem PAct.triv {g f : Nat → Nat} {n : Nat} (h : PAct g f n) (hz : ∀ i, i < n → g (g i) = i) : mO g n = n ∧ (∀ q, q < n → sO g n q = g q) ∧ ∀ q, q < n → tO g f n q = f q := by
  obtain ⟨h1, h2⟩ := pjN_id (z := zOf g) n hz
  have hm : mO g n = n := by unfold mO; rw [h1, List.length_range]
  have hl : ∀ q, q < n → lsO g n q = q := fun q hq => by unfold lsO; rw [h1]; simp [List.getD, hq]
  refine ⟨hm, fun q hq => ?_, fun q hq => ?_⟩
  · show phO g n (g (lsO g n q)) = _
    rw [hl q hq]; exact h2 _ (h.gp.lt q hq)
  · show phO g n (f (lsO g n q)) = _
    rw [hl q hq]; exact h2 _ (h.fp.lt q hq)
/-- The two rows of numbers stand for one point. -/
theorem nf_both {n : Int} (n1 : 1 ≤ n) (c d : Int) : ∃ T R : Int, n ∣ T * nfU n c d - c ∧ n ∣ T * nfV n c d - d ∧ n ∣ R * c - nfU n c d ∧ n ∣ R * d - nfV n c d := by
  obtain ⟨T, h⟩ := nf_spec n1 c d
  obtain ⟨R, hR, h1, h2⟩ := h.inv
  exact ⟨T, R, h.eu, h.ev, h1, h2⟩
def wS (k : Nat) (v : K4) : Nat := if (v.1 * v.1 + v.2.1 * v.2.1) % (k : Int) = 0 then 1 else 0
def wU (k : Nat) (v : K4) : Nat := if (v.1 * v.1 - v.1 * v.2.1 + v.2.1 * v.2.1) % (k : Int) = 0 then 1 else 0
def wC (k : Nat) (v : K4) : Nat := Int.gcd (v.1 * v.1) (k : Int)
theorem wS_eq {k : Nat} (k1 : 1 ≤ k) (x : M4) : wS k (kc1 (k : Int) x) = if (k : Int) ∣ x.2.2.1 * x.2.2.1 + x.2.2.2 * x.2.2.2 then 1 else 0 := by
  obtain ⟨T, R, ⟨a, ha⟩, ⟨b, hb⟩, ⟨c, hc⟩, ⟨d, hd⟩⟩ := nf_both (n := (k : Int)) (by omega) x.2.2.1 x.2.2.2
  unfold wS
  show (if (nfU (k : Int) x.2.2.1 x.2.2.2 * nfU (k : Int) x.2.2.1 x.2.2.2 + nfV (k : Int) x.2.2.1 x.2.2.2 * nfV (k : Int) x.2.2.1 x.2.2.2) % (k : Int) = 0 then 1 else 0) = _
  generalize nfU (k : Int) x.2.2.1 x.2.2.2 = U at *
  generalize nfV (k : Int) x.2.2.1 x.2.2.2 = V at *
  generalize x.2.2.1 = C at *
  generalize x.2.2.2 = D at *
  have e : (U * U + V * V) % (k : Int) = 0 ↔ (k : Int) ∣ C * C + D * D := by
    rw [← Int.dvd_iff_emod_eq_zero]
    constructor
    · rintro ⟨r, hr⟩
      exact ⟨T * T * r - (T * U + C) * a - (T * V + D) * b, by grind⟩
    · rintro ⟨r, hr⟩
      exact ⟨R * R * r - (R * C + U) * c - (R * D + V) * d, by grind⟩
  by_cases h : (k : Int) ∣ C * C + D * D
  · rw [if_pos h, if_pos (e.2 h)]
  · rw [if_neg h, if_neg fun h' => h (e.1 h')]
theorem wU_eq {k : Nat} (k1 : 1 ≤ k) (x : M4) : wU k (kc1 (k : Int) x) = if (k : Int) ∣ x.2.2.1 * x.2.2.1 - x.2.2.1 * x.2.2.2 + x.2.2.2 * x.2.2.2 then 1 else 0 := by
  obtain ⟨T, R, ⟨a, ha⟩, ⟨b, hb⟩, ⟨c, hc⟩, ⟨d, hd⟩⟩ := nf_both (n := (k : Int)) (by omega) x.2.2.1 x.2.2.2
  unfold wU
  show (if (nfU (k : Int) x.2.2.1 x.2.2.2 * nfU (k : Int) x.2.2.1 x.2.2.2 - nfU (k : Int) x.2.2.1 x.2.2.2 * nfV (k : Int) x.2.2.1 x.2.2.2 + nfV (k : Int) x.2.2.1 x.2.2.2 * nfV (k : Int) x.2.2.1 x.2.2.2) % (k : Int) = 0 then 1 else 0) = _
  generalize nfU (k : Int) x.2.2.1 x.2.2.2 = U at *
  generalize nfV (k : Int) x.2.2.1 x.2.2.2 = V at *
  generalize x.2.2.1 = C at *
  generalize x.2.2.2 = D at *
  have e : (U * U - U * V + V * V) % (k : Int) = 0 ↔ (k : Int) ∣ C * C - C * D + D * D := by
    rw [← Int.dvd_iff_emod_eq_zero]
    constructor
    · rintro ⟨r, hr⟩
      exact ⟨T * T * r - (T * U + C) * a - (T * V + D) * b + a * T * V + C * b, by grind⟩
    · rintro ⟨r, hr⟩
      exact ⟨R * R * r - (R * C + U) * c - (R * D + V) * d + c * R * D + U * d, by grind⟩
  by_cases h : (k : Int) ∣ C * C - C * D + D * D
  · rw [if_pos h, if_pos (e.2 h)]
  · rw [if_neg h, if_neg fun h' => h (e.1 h')]
theorem wC_eq {k : Nat} (k1 : 1 ≤ k) (x : M4) : wC k (kc1 (k : Int) x) = Int.gcd (x.2.2.1 * x.2.2.1) (k : Int) := by
  obtain ⟨T, R, ⟨a, ha⟩, ⟨b, hb⟩, ⟨c, hc⟩, ⟨d, hd⟩⟩ := nf_both (n := (k : Int)) (by omega) x.2.2.1 x.2.2.2
  unfold wC
  show Int.gcd (nfU (k : Int) x.2.2.1 x.2.2.2 * nfU (k : Int) x.2.2.1 x.2.2.2) (k : Int) = _
  generalize nfU (k : Int) x.2.2.1 x.2.2.2 = U at *
  generalize x.2.2.1 = C at *
  have key : ∀ {U C T a : Int}, T * U - C = (k : Int) * a → Int.gcd (U * U) (k : Int) ∣ Int.gcd (C * C) (k : Int) := fun {U C T a} h => by
    refine Int.dvd_gcd ?_ (Int.gcd_dvd_right ..)
    have e : C * C = T * T * (U * U) - (T * U + C) * a * (k : Int) := by grind
    rw [e]
    exact Int.dvd_sub (Int.dvd_mul_of_dvd_right (Int.gcd_dvd_left ..)) (Int.dvd_mul_of_dvd_right (Int.gcd_dvd_right ..))
  exact Nat.dvd_antisymm (key ha) (key hc)
section
variable {k : Nat} (k1 : 1 ≤ k)
include k1
theorem g0_cos : Cos (kc1 (k : Int)) := kos1 (by omega)
theorem g0_mem {x : M4} (hx : dtM x = 1) : kc1 (k : Int) x ∈ (srun (kc1 (k : Int)) (V1 k).length).K := SFin.all (g0_cos k1) (kfin1 k1) hx
theorem g0_perm : (srun (kc1 (k : Int)) (V1 k).length).K.Perm (V1 k) := by
  have hF := kfin1 k1
  have hR := hF.ri
  refine (List.perm_ext_iff_of_nodup (by rw [hR.k]; exact hR.nd) (v1_nodup k)).2 fun v => ⟨fun hv => ?_, fun hv => ?_⟩
  · rw [hR.k] at hv
    obtain ⟨x, hx, rfl⟩ := List.mem_map.1 hv
    exact nf_in k1 (row_cop (hR.d x hx))
  · obtain ⟨c, d, hc, hv⟩ := nf_on k1 hv
    obtain ⟨x, hx, h1, h2⟩ := lift_row' hc
    rw [← hv _ _ h1 h2]
    exact g0_mem k1 hx
/-- A sum over the points. -/
theorem g0_sum (W : K4 → Nat) : smB (fun q => W (kc1 (k : Int) ((srun (kc1 (k : Int)) (V1 k).length).L.getD q (0, 0, 0, 0)))) (V1 k).length = ((V1 k).map W).sum := by
  have hF := kfin1 k1
  have hR := hF.ri
  have h1 := smB_list ((0, 0, 0, 0) : M4) (fun x => W (kc1 (k : Int) x)) (srun (kc1 (k : Int)) (V1 k).length).L
  rw [hF.len] at h1
  rw [h1, ← List.Perm.sum_nat ((g0_perm k1).map W), hR.k, List.map_map]
  rfl
/-- x T^w. -/
def twP : Nat → M4 → M4
  | 0, x => x
  | w + 1, x => mT (twP w x)
omit k1 in
theorem twP_dt {x : M4} (hx : dtM x = 1) : ∀ w, dtM (twP w x) = 1
  | 0 => hx
  | w + 1 => by show dtM (mT (twP w x)) = 1; rw [dtM_T]; exact twP_dt hx w
omit k1 in
theorem twP_row (x : M4) : ∀ w : Nat, (twP w x).2.2.1 = x.2.2.1 ∧ (twP w x).2.2.2 = x.2.2.2 + (w : Int) * x.2.2.1
  | 0 => ⟨rfl, by show x.2.2.2 = _; simp⟩
  | w + 1 => by
    obtain ⟨h1, h2⟩ := twP_row x w
    refine ⟨h1, ?_⟩
    show (twP w x).2.2.1 + (twP w x).2.2.2 = _
    rw [h1, h2, Int.natCast_add, Int.add_mul]
    omega
theorem g0_itr {x : M4} (hx : dtM x = 1) : ∀ w, itr (fnz (iz (srun (kc1 (k : Int)) (V1 k).length).T)) w (plC (kc1 (k : Int)) (V1 k).length x) = plC (kc1 (k : Int)) (V1 k).length (twP w x)
  | 0 => rfl
  | w + 1 => by
    show fnz _ (itr _ w _) = _
    rw [g0_itr hx w]
    exact (kfin1 k1).atT (g0_cos k1) (twP_dt hx w) (g0_mem k1 (twP_dt hx w))
theorem g0_pl {x y : M4} (hx : dtM x = 1) (hy : dtM y = 1) : plC (kc1 (k : Int)) (V1 k).length x = plC (kc1 (k : Int)) (V1 k).length y ↔ (k : Int) ∣ x.2.2.1 * y.2.2.2 - y.2.2.1 * x.2.2.2 := by
  rw [← kc1_iffP (by omega) hx hy]
  refine ⟨fun e => (kfin1 k1).pl_inj (g0_mem k1 hx) (g0_mem k1 hy) e, fun e => ?_⟩
  show List.idxOf _ _ = List.idxOf _ _
  rw [e]
/-- The length of a cycle of T. -/
theorem g0_per {x : M4} (hx : dtM x = 1) : IsPer (fnz (iz (srun (kc1 (k : Int)) (V1 k).length).T)) (plC (kc1 (k : Int)) (V1 k).length x) (k / Int.gcd (x.2.2.1 * x.2.2.1) (k : Int)) := by
  have key : ∀ w : Nat, itr (fnz (iz (srun (kc1 (k : Int)) (V1 k).length).T)) w (plC (kc1 (k : Int)) (V1 k).length x) = plC (kc1 (k : Int)) (V1 k).length x ↔ (k : Int) ∣ (w : Int) * (x.2.2.1 * x.2.2.1) := fun w => by
    rw [g0_itr k1 hx w, g0_pl k1 (twP_dt hx w) hx, (twP_row x w).1, (twP_row x w).2]
    generalize x.2.2.1 = c
    generalize x.2.2.2 = d
    constructor
    · rintro ⟨r, hr⟩; exact ⟨-r, by grind⟩
    · rintro ⟨r, hr⟩; exact ⟨-r, by grind⟩
  generalize x.2.2.1 * x.2.2.1 = s at *
  have hg : 0 < Int.gcd s (k : Int) := Int.gcd_pos_of_ne_zero_right s (by omega)
  have hgd : Int.gcd s (k : Int) ∣ k := by
    have := Int.gcd_dvd_right s (k : Int)
    exact Int.natCast_dvd_natCast.1 this
  have hgs : ((Int.gcd s (k : Int) : Nat) : Int) ∣ s := Int.gcd_dvd_left ..
  have hw : ∀ w : Nat, (k : Int) ∣ (w : Int) * s ↔ k / Int.gcd s (k : Int) ∣ w := fun w => by
    obtain ⟨q, hq⟩ := hgd
    obtain ⟨r, hr⟩ := hgs
    have hcop : Int.gcd r (q : Int) = 1 := by
      have h1 : Int.gcd s (k : Int) = Int.gcd s (k : Int) * Int.gcd r (q : Int) := by
        have h2 := Int.gcd_mul_left ((Int.gcd s (k : Int) : Nat) : Int) r (q : Int)
        rw [← hr, show ((Int.gcd s (k : Int) : Nat) : Int) * (q : Int) = (k : Int) by rw [← Int.natCast_mul, ← hq]] at h2
        simpa using h2
      have h3 : Int.gcd s (k : Int) * 1 = Int.gcd s (k : Int) * Int.gcd r (q : Int) := by rw [Nat.mul_one]; exact h1
      exact (Nat.eq_of_mul_eq_mul_left hg h3).symm
    generalize Int.gcd s (k : Int) = G at *
    subst hq hr
    rw [Nat.mul_div_cancel_left q hg]
    constructor
    · rintro ⟨t, ht⟩
      have h4 : (G : Int) * ((w : Int) * r) = (G : Int) * ((q : Int) * t) := by rw [Int.natCast_mul] at ht; grind
      have h5 : (w : Int) * r = (q : Int) * t := Int.eq_of_mul_eq_mul_left (by omega) h4
      have h6 : (q : Int) ∣ (w : Int) * r := ⟨t, h5⟩
      have h7 := Int.natAbs_dvd_natAbs.2 h6
      rw [Int.natAbs_mul, Int.natAbs_natCast, Int.natAbs_natCast] at h7
      have h8 : Nat.Coprime q r.natAbs := by
        have : Int.gcd r (q : Int) = Nat.gcd r.natAbs q := rfl
        rw [Nat.Coprime, Nat.gcd_comm, ← this]; exact hcop
      exact Nat.Coprime.dvd_of_dvd_mul_right h8 h7
    · rintro ⟨t, rfl⟩
      exact ⟨(t : Int) * r, by rw [Int.natCast_mul, Int.natCast_mul]; grind⟩
  refine ⟨Nat.div_pos (Nat.le_of_dvd k1 hgd) hg, (key _).2 ((hw _).2 (Nat.dvd_refl _)), fun j h1 h2 e => ?_⟩
  have := (hw j).1 ((key j).1 e)
  exact absurd (Nat.le_of_dvd h1 this) (by omega)
/-- The signature of the coset action of Gamma0(k), by sums over the projective line. -/
theorem g0_sig : mO (fnz (iz (srun (kc1 (k : Int)) (V1 k).length).S)) (V1 k).length = (V1 k).length ∧
    n2Z (fnz (iz (srun (kc1 (k : Int)) (V1 k).length).S)) (V1 k).length = ((V1 k).map (wS k)).sum ∧
    n3Z (fnz (iz (srun (kc1 (k : Int)) (V1 k).length).S)) (fnz (iz (srun (kc1 (k : Int)) (V1 k).length).T)) (V1 k).length = ((V1 k).map (wU k)).sum ∧
    k * cuZ (fnz (iz (srun (kc1 (k : Int)) (V1 k).length).S)) (fnz (iz (srun (kc1 (k : Int)) (V1 k).length).T)) (V1 k).length = ((V1 k).map (wC k)).sum := by
  have hF := kfin1 k1
  have hC := g0_cos k1
  have hP := hF.pact hC
  have hS := fun {x : M4} (hx : dtM x = 1) => hF.atS hC hx (g0_mem k1 hx)
  have hT := fun {x : M4} (hx : dtM x = 1) => hF.atT hC hx (g0_mem k1 hx)
  have hdS := fun {x : M4} (hx : dtM x = 1) => show dtM (mS x) = 1 by rw [dtM_S]; exact hx
  have hdT := fun {x : M4} (hx : dtM x = 1) => show dtM (mT x) = 1 by rw [dtM_T]; exact hx
  have hzz : ∀ i, i < (V1 k).length → fnz (iz (srun (kc1 (k : Int)) (V1 k).length).S) (fnz (iz (srun (kc1 (k : Int)) (V1 k).length).S) i) = i := fun i hi => by
    have hx := hF.dL hi
    have hi' := hF.pl_L hi
    rw [← hi', hS hx, hS (hdS hx), g0_pl k1 (hdS (hdS hx)) hx]
    generalize (srun (kc1 (k : Int)) (V1 k).length).L.getD i (0, 0, 0, 0) = x
    refine ⟨0, ?_⟩
    show -x.2.2.1 * x.2.2.2 - x.2.2.1 * -x.2.2.2 = _
    grind
  obtain ⟨hm, hs, ht⟩ := hP.triv hzz
  refine ⟨hm, ?_, ?_, ?_⟩
  · rw [← g0_sum k1 (wS k)]
    unfold n2Z
    rw [hm, cntB_smB]
    refine smB_congr _ fun q hq => ?_
    have hx := hF.dL hq
    have hq' := hF.pl_L hq
    rw [wS_eq k1, hs q hq]
    have e : fnz (iz (srun (kc1 (k : Int)) (V1 k).length).S) q = q ↔ (k : Int) ∣ ((srun (kc1 (k : Int)) (V1 k).length).L.getD q (0, 0, 0, 0)).2.2.1 * ((srun (kc1 (k : Int)) (V1 k).length).L.getD q (0, 0, 0, 0)).2.2.1 + ((srun (kc1 (k : Int)) (V1 k).length).L.getD q (0, 0, 0, 0)).2.2.2 * ((srun (kc1 (k : Int)) (V1 k).length).L.getD q (0, 0, 0, 0)).2.2.2 := by
      have h1 := hS hx
      have h2 := g0_pl k1 (hdS hx) hx
      rw [hq'] at h1 h2
      rw [h1, h2]
      generalize (srun (kc1 (k : Int)) (V1 k).length).L.getD q (0, 0, 0, 0) = x
      show (k : Int) ∣ x.2.2.2 * x.2.2.2 - x.2.2.1 * -x.2.2.1 ↔ _
      rw [show x.2.2.2 * x.2.2.2 - x.2.2.1 * -x.2.2.1 = x.2.2.1 * x.2.2.1 + x.2.2.2 * x.2.2.2 by grind]
    by_cases h : fnz (iz (srun (kc1 (k : Int)) (V1 k).length).S) q = q
    · rw [if_pos (decide_eq_true h), if_pos (e.1 h)]
    · rw [if_neg (by simpa using h), if_neg fun h' => h (e.2 h')]
  · rw [← g0_sum k1 (wU k)]
    unfold n3Z
    rw [hm, cntB_smB]
    refine smB_congr _ fun q hq => ?_
    have hx := hF.dL hq
    have hq' := hF.pl_L hq
    rw [wU_eq k1, hs q hq, ht _ (hP.gp.lt q hq)]
    have e : fnz (iz (srun (kc1 (k : Int)) (V1 k).length).T) (fnz (iz (srun (kc1 (k : Int)) (V1 k).length).S) q) = q ↔ (k : Int) ∣ ((srun (kc1 (k : Int)) (V1 k).length).L.getD q (0, 0, 0, 0)).2.2.1 * ((srun (kc1 (k : Int)) (V1 k).length).L.getD q (0, 0, 0, 0)).2.2.1 - ((srun (kc1 (k : Int)) (V1 k).length).L.getD q (0, 0, 0, 0)).2.2.1 * ((srun (kc1 (k : Int)) (V1 k).length).L.getD q (0, 0, 0, 0)).2.2.2 + ((srun (kc1 (k : Int)) (V1 k).length).L.getD q (0, 0, 0, 0)).2.2.2 * ((srun (kc1 (k : Int)) (V1 k).length).L.getD q (0, 0, 0, 0)).2.2.2 := by
      have h1 := hS hx
      have h3 := hT (hdS hx)
      have h2 := g0_pl k1 (hdT (hdS hx)) hx
      rw [hq'] at h1 h2
      rw [h1, h3, h2]
      generalize (srun (kc1 (k : Int)) (V1 k).length).L.getD q (0, 0, 0, 0) = x
      show (k : Int) ∣ x.2.2.2 * x.2.2.2 - x.2.2.1 * (x.2.2.2 + -x.2.2.1) ↔ _
      rw [show x.2.2.2 * x.2.2.2 - x.2.2.1 * (x.2.2.2 + -x.2.2.1) = x.2.2.1 * x.2.2.1 - x.2.2.1 * x.2.2.2 + x.2.2.2 * x.2.2.2 by grind]
    by_cases h : fnz (iz (srun (kc1 (k : Int)) (V1 k).length).T) (fnz (iz (srun (kc1 (k : Int)) (V1 k).length).S) q) = q
    · rw [if_pos (decide_eq_true h), if_pos (e.1 h)]
    · rw [if_neg (by simpa using h), if_neg fun h' => h (e.2 h')]
  · rw [← g0_sum k1 (wC k)]
    have hz : Inv2 (fnz (iz (srun (kc1 (k : Int)) (V1 k).length).T)) (fun i => fnz (iz (srun (kc1 (k : Int)) (V1 k).length).S) (fnz (iz (srun (kc1 (k : Int)) (V1 k).length).S) i)) (V1 k).length := ⟨fun i hi => hP.gp.lt _ (hP.gp.lt i hi), fun i hi => hP.zz i hi, fun i hi => hP.fc i hi⟩
    have hR := cst_reps hP.fp hz
    refine (cls_weight (uB_eqv hP.fp hz) hR (fun q => wC k (kc1 (k : Int) ((srun (kc1 (k : Int)) (V1 k).length).L.getD q (0, 0, 0, 0)))) fun x hx => ?_).symm
    have hxN := hR.lt x hx
    have hd := hF.dL hxN
    have hpl := hF.pl_L hxN
    have hper := g0_per k1 hd
    rw [hpl] at hper
    have hcnt := cnt_u (p := x) hP.fp hz hxN
    rw [wid0_fix hP.fp hxN (hzz x hxN), (perO_spec hP.fp hxN).1.uniq hper] at hcnt
    have hw : ∀ i, i < (V1 k).length → uB (fnz (iz (srun (kc1 (k : Int)) (V1 k).length).T)) (fun i => fnz (iz (srun (kc1 (k : Int)) (V1 k).length).S) (fnz (iz (srun (kc1 (k : Int)) (V1 k).length).S) i)) (V1 k).length x i = true → wC k (kc1 (k : Int) ((srun (kc1 (k : Int)) (V1 k).length).L.getD i (0, 0, 0, 0))) = Int.gcd (((srun (kc1 (k : Int)) (V1 k).length).L.getD x (0, 0, 0, 0)).2.2.1 * ((srun (kc1 (k : Int)) (V1 k).length).L.getD x (0, 0, 0, 0)).2.2.1) (k : Int) := fun i hi hu => by
      rw [uB_iff hP.fp hz hxN, hzz x hxN, or_self] at hu
      obtain ⟨w, e⟩ := hu
      have hdi := hF.dL hi
      have e2 : plC (kc1 (k : Int)) (V1 k).length (twP w ((srun (kc1 (k : Int)) (V1 k).length).L.getD x (0, 0, 0, 0))) = plC (kc1 (k : Int)) (V1 k).length ((srun (kc1 (k : Int)) (V1 k).length).L.getD i (0, 0, 0, 0)) := by
        rw [← g0_itr k1 hd w, hpl, e, hF.pl_L hi]
      have e3 := hF.pl_inj (g0_mem k1 (twP_dt hd w)) (g0_mem k1 hdi) e2
      rw [← e3, wC_eq k1, (twP_row _ w).1]
    have e4 : smB (fun i => @ite Nat (uB (fnz (iz (srun (kc1 (k : Int)) (V1 k).length).T)) (fun i => fnz (iz (srun (kc1 (k : Int)) (V1 k).length).S) (fnz (iz (srun (kc1 (k : Int)) (V1 k).length).S) i)) (V1 k).length x i = true) (Classical.propDecidable _) (wC k (kc1 (k : Int) ((srun (kc1 (k : Int)) (V1 k).length).L.getD i (0, 0, 0, 0)))) 0) (V1 k).length = smB (fun i => if uB (fnz (iz (srun (kc1 (k : Int)) (V1 k).length).T)) (fun i => fnz (iz (srun (kc1 (k : Int)) (V1 k).length).S) (fnz (iz (srun (kc1 (k : Int)) (V1 k).length).S) i)) (V1 k).length x i = true then Int.gcd (((srun (kc1 (k : Int)) (V1 k).length).L.getD x (0, 0, 0, 0)).2.2.1 * ((srun (kc1 (k : Int)) (V1 k).length).L.getD x (0, 0, 0, 0)).2.2.1) (k : Int) else 0) (V1 k).length := smB_congr _ fun i hi => by
      by_cases h : uB (fnz (iz (srun (kc1 (k : Int)) (V1 k).length).T)) (fun i => fnz (iz (srun (kc1 (k : Int)) (V1 k).length).S) (fnz (iz (srun (kc1 (k : Int)) (V1 k).length).S) i)) (V1 k).length x i = true
      · rw [if_pos h, if_pos h, hw i hi h]
      · rw [if_neg h, if_neg h]
    refine e4.trans ?_
    rw [smB_scale, hcnt]
    refine Nat.mul_div_cancel' ?_
    exact Int.natCast_dvd_natCast.1 (Int.gcd_dvd_right _ (k : Int))
end
end Go.Proofs.Ytmikhkolbkdnpaa
namespace Go.Proofs.Ytmikhkolbkdnpaa
set_option linter.unusedVariables false

theorem per_of {f : Nat → Nat} {p k : Nat} {s : Int} (k1 : 1 ≤ k) (key : ∀ w : Nat, itr f w p = p ↔ (k : Int) ∣ (w : Int) * s) : IsPer f p (k / Int.gcd s (k : Int)) := by
  have hg : 0 < Int.gcd s (k : Int) := Int.gcd_pos_of_ne_zero_right s (by omega)
  have hgd : Int.gcd s (k : Int) ∣ k := by
    have := Int.gcd_dvd_right s (k : Int)
    exact Int.natCast_dvd_natCast.1 this
  have hgs : ((Int.gcd s (k : Int) : Nat) : Int) ∣ s := Int.gcd_dvd_left ..
  have hw : ∀ w : Nat, (k : Int) ∣ (w : Int) * s ↔ k / Int.gcd s (k : Int) ∣ w := fun w => by
    obtain ⟨q, hq⟩ := hgd
    obtain ⟨r, hr⟩ := hgs
    have hcop : Int.gcd r (q : Int) = 1 := by
      have h1 : Int.gcd s (k : Int) = Int.gcd s (k : Int) * Int.gcd r (q : Int) := by
        have h2 := Int.gcd_mul_left ((Int.gcd s (k : Int) : Nat) : Int) r (q : Int)
        rw [← hr, show ((Int.gcd s (k : Int) : Nat) : Int) * (q : Int) = (k : Int) by rw [← Int.natCast_mul, ← hq]] at h2
        simpa using h2
      have h3 : Int.gcd s (k : Int) * 1 = Int.gcd s (k : Int) * Int.gcd r (q : Int) := by rw [Nat.mul_one]; exact h1
      exact (Nat.eq_of_mul_eq_mul_left hg h3).symm
    generalize Int.gcd s (k : Int) = G at *
    subst hq hr
    rw [Nat.mul_div_cancel_left q hg]
    constructor
    · rintro ⟨t, ht⟩
      have h4 : (G : Int) * ((w : Int) * r) = (G : Int) * ((q : Int) * t) := by rw [Int.natCast_mul] at ht; grind
      have h5 : (w : Int) * r = (q : Int) * t := Int.eq_of_mul_eq_mul_left (by omega) h4
      have h6 : (q : Int) ∣ (w : Int) * r := ⟨t, h5⟩
      have h7 := Int.natAbs_dvd_natAbs.2 h6
      rw [Int.natAbs_mul, Int.natAbs_natCast, Int.natAbs_natCast] at h7
      have h8 : Nat.Coprime q r.natAbs := by
        have : Int.gcd r (q : Int) = Nat.gcd r.natAbs q := rfl
        rw [Nat.Coprime, Nat.gcd_comm, ← this]; exact hcop
      exact Nat.Coprime.dvd_of_dvd_mul_right h8 h7
    · rintro ⟨t, rfl⟩
      exact ⟨(t : Int) * r, by rw [Int.natCast_mul, Int.natCast_mul]; grind⟩
  refine ⟨Nat.div_pos (Nat.le_of_dvd k1 hgd) hg, (key _).2 ((hw _).2 (Nat.dvd_refl _)), fun j h1 h2 e => ?_⟩
  have := (hw j).1 ((key j).1 e)
  exact absurd (Nat.le_of_dvd h1 this) (by omega)

def wG (k : Nat) (v : K4) : Nat := Int.gcd v.1 (k : Int)
theorem gcd_md (a : Int) (k : Nat) : Int.gcd (a % (k : Int)) (k : Int) = Int.gcd a (k : Int) := by
  have h := Int.emod_add_mul_ediv a (k : Int)
  refine Nat.dvd_antisymm (Int.dvd_gcd ?_ (Int.gcd_dvd_right ..)) (Int.dvd_gcd ?_ (Int.gcd_dvd_right ..))
  · rw [← h]
    exact Int.dvd_add (by rw [h]; exact Int.gcd_dvd_left ..) (Int.dvd_mul_of_dvd_left (Int.gcd_dvd_right ..))
  · have e : a % (k : Int) = a - (k : Int) * (a / (k : Int)) := by omega
    rw [e]
    exact Int.dvd_sub (Int.gcd_dvd_left ..) (Int.dvd_mul_of_dvd_left (Int.gcd_dvd_right ..))
theorem wG_eq (k : Nat) (x : M4) : wG k (kc2 (k : Int) x) = Int.gcd x.2.2.1 (k : Int) := gcd_md _ _
theorem smB_ones : ∀ n, smB (fun _ => 1) n = n
  | 0 => rfl
  | n + 1 => by rw [smB, smB_ones n]
section
variable {k : Nat} (k1 : 1 ≤ k) (hc : ckxI 2 (k : Int) = 0)
include k1 hc
theorem g1_perm : (srun (kco 2 (k : Int)) (idxN 2 ((k : Int)).toNat)).K.Perm (V2 k) := by
  have hF := g1_fin hc
  have hR := hF.ri
  refine (List.perm_ext_iff_of_nodup (by rw [hR.k]; exact hR.nd) (v2_nodup k)).2 fun v => ⟨fun hv => ?_, fun hv => ?_⟩
  · rw [hR.k] at hv
    obtain ⟨x, hx, rfl⟩ := List.mem_map.1 hv
    obtain ⟨e1, l1⟩ := toN (n := (k : Int)) (x := x.2.2.1) (by omega)
    obtain ⟨e2, l2⟩ := toN (n := (k : Int)) (x := x.2.2.2) (by omega)
    have hcp := cop_mod (row_cop (n := (k : Int)) (hR.d x hx))
    rw [e1, e2] at hcp
    rw [kco_two]
    unfold kc2
    rw [e1, e2]
    exact v2_mem (by omega) (by omega) (cop_nat.1 hcp)
  · obtain ⟨p, hp, rfl⟩ := List.mem_map.1 hv
    obtain ⟨hr, hcp⟩ := List.mem_filter.1 hp
    have hpr := List.mem_range.1 hr
    have hc' : Nat.gcd (Nat.gcd (p / k) (p % k)) k = 1 := by unfold kp2 at hcp; rwa [beq_iff_eq] at hcp
    obtain ⟨x, hx, h1, h2⟩ := lift_row' (cop_nat.2 hc')
    have l1 : p / k < k := Nat.div_lt_of_lt_mul hpr
    have l2 : p % k < k := Nat.mod_lt _ (by omega)
    have e : kc2 (k : Int) x = kq2 k p := by
      unfold kc2 kq2
      rw [mod_iff.2 h1, mod_iff.2 h2, Int.emod_eq_of_lt (Int.natCast_nonneg _) (Int.ofNat_lt.2 l1), Int.emod_eq_of_lt (Int.natCast_nonneg _) (Int.ofNat_lt.2 l2)]
    rw [← e, ← kco_two]
    exact g1_mem hc hx
/-- The matrix of a point. -/
noncomputable def mtP (k : Nat) (q : Nat) : M4 := (srun (kco 2 (k : Int)) (idxN 2 ((k : Int)).toNat)).L.getD q (0, 0, 0, 0)
omit k1 in
theorem mtP_ok {q : Nat} (hq : q < (olS 2 (k : Int)).length) : dtM (mtP k q) = 1 ∧ plC (kco 2 (k : Int)) (idxN 2 ((k : Int)).toNat) (mtP k q) = q := by
  rw [g1_len hc] at hq
  exact ⟨(g1_fin hc).dL hq, (g1_fin hc).pl_L hq⟩
theorem g1_sum (W : K4 → Nat) : smB (fun q => W (kco 2 (k : Int) (mtP k q))) (olS 2 (k : Int)).length = ((V2 k).map W).sum := by
  have hF := g1_fin hc
  have hR := hF.ri
  have h1 := smB_list ((0, 0, 0, 0) : M4) (fun x => W (kco 2 (k : Int) x)) (srun (kco 2 (k : Int)) (idxN 2 ((k : Int)).toNat)).L
  rw [hF.len] at h1
  show smB (fun q => W (kco 2 (k : Int) ((srun (kco 2 (k : Int)) (idxN 2 ((k : Int)).toNat)).L.getD q (0, 0, 0, 0)))) _ = _
  rw [← List.Perm.sum_nat ((g1_perm k1 hc).map W), hR.k, List.map_map, g1_len hc]
  exact h1
theorem g1_per {x : M4} (hx : dtM x = 1) : IsPer (fnz (olT 2 (k : Int))) (plC (kco 2 (k : Int)) (idxN 2 ((k : Int)).toNat) x) (k / Int.gcd x.2.2.1 (k : Int)) := by
  refine per_of k1 fun w => ?_
  rw [g1_T hc hx w, g1_pl hc (twQ_dt hx w) hx, (twQ_row x w).1, (twQ_row x w).2]
  rw [show x.2.2.1 - x.2.2.1 = 0 by omega, show x.2.2.2 + (w : Int) * x.2.2.1 - x.2.2.2 = (w : Int) * x.2.2.1 by omega]
  exact ⟨fun h => h.2, fun h => ⟨⟨0, by simp⟩, h⟩⟩
theorem g1_cu (k5 : 3 ≤ k) (k4 : k ≠ 4) : 2 * k * cuZ (fnz (olS 2 (k : Int))) (fnz (olT 2 (k : Int))) (olS 2 (k : Int)).length = ((V2 k).map (wG k)).sum := by
  have ha := ol_act hc
  have hz := rel_inv ha.ps ha.pt ha.rel
  have hR := cst_reps ha.pt hz
  have hmn : mnB (olS 2 (k : Int)) = false := by
    rw [g1_mn hc]
    exact decide_eq_false fun h => by have := Int.le_of_dvd (by omega) h; omega
  rw [← g1_sum k1 hc (wG k)]
  refine (cls_weight (uB_eqv ha.pt hz) hR (fun q => wG k (kco 2 (k : Int) (mtP k q))) fun x hx => ?_).symm
  have hxN := hR.lt x hx
  obtain ⟨hd, hpl⟩ := mtP_ok hc hxN
  have hper := g1_per k1 hc hd
  rw [hpl] at hper
  have hcnt := cnt_u (p := x) ha.pt hz hxN
  have p1 := (perO_spec ha.pt hxN).1.uniq hper
  have hper2 := Inv2.per (z := fun i => fnz (olS 2 (k : Int)) (fnz (olS 2 (k : Int)) i)) ha.pt hz hxN hper
  have p2 := (perO_spec ha.pt (hz.lt x hxN)).1.uniq hper2
  have hnc : ¬ (cyL (fnz (olT 2 (k : Int))) x (perO (fnz (olT 2 (k : Int))) (olS 2 (k : Int)).length x)).contains (fnz (olS 2 (k : Int)) (fnz (olS 2 (k : Int)) x)) = true := fun h => by
    have ho := (cy_on ha.pt hxN).1 h
    have hr := (rgN_iff ha hxN).2 ⟨hmn, ho⟩
    rw [← hpl] at hr
    have := g1_four hc (by omega) hd hr
    omega
  unfold wid0 at hcnt
  rw [if_neg hnc, p1, p2] at hcnt
  have hw : ∀ i, i < (olS 2 (k : Int)).length → uB (fnz (olT 2 (k : Int))) (fun i => fnz (olS 2 (k : Int)) (fnz (olS 2 (k : Int)) i)) (olS 2 (k : Int)).length x i = true → wG k (kco 2 (k : Int) (mtP k i)) = Int.gcd (mtP k x).2.2.1 (k : Int) := fun i hi hu => by
    rw [uB_iff ha.pt hz hxN] at hu
    obtain ⟨hdi, hpi⟩ := mtP_ok hc hi
    rcases hu with ⟨w, e⟩ | ⟨w, e⟩
    · have e2 : plC (kco 2 (k : Int)) (idxN 2 ((k : Int)).toNat) (twQ w (mtP k x)) = plC (kco 2 (k : Int)) (idxN 2 ((k : Int)).toNat) (mtP k i) := by
        rw [← g1_T hc hd w, hpl, e, hpi]
      rw [← (g1_fin hc).pl_inj (g1_mem hc (twQ_dt hd w)) (g1_mem hc hdi) e2, kco_two, wG_eq, (twQ_row _ w).1]
    · have hd2 := mSS_dt hd
      have hz2 := g1_SS hc hd
      rw [hpl] at hz2
      have e2 : plC (kco 2 (k : Int)) (idxN 2 ((k : Int)).toNat) (twQ w (mS (mS (mtP k x)))) = plC (kco 2 (k : Int)) (idxN 2 ((k : Int)).toNat) (mtP k i) := by
        rw [← g1_T hc hd2 w, ← hz2, e, hpi]
      rw [← (g1_fin hc).pl_inj (g1_mem hc (twQ_dt hd2 w)) (g1_mem hc hdi) e2, kco_two, wG_eq, (twQ_row _ w).1, (mSS_row _).1, Int.neg_gcd]
  have e4 : smB (fun i => @ite Nat (uB (fnz (olT 2 (k : Int))) (fun i => fnz (olS 2 (k : Int)) (fnz (olS 2 (k : Int)) i)) (olS 2 (k : Int)).length x i = true) (Classical.propDecidable _) (wG k (kco 2 (k : Int) (mtP k i))) 0) (olS 2 (k : Int)).length = smB (fun i => if uB (fnz (olT 2 (k : Int))) (fun i => fnz (olS 2 (k : Int)) (fnz (olS 2 (k : Int)) i)) (olS 2 (k : Int)).length x i = true then Int.gcd (mtP k x).2.2.1 (k : Int) else 0) (olS 2 (k : Int)).length := smB_congr _ fun i hi => by
    by_cases h : uB (fnz (olT 2 (k : Int))) (fun i => fnz (olS 2 (k : Int)) (fnz (olS 2 (k : Int)) i)) (olS 2 (k : Int)).length x i = true
    · rw [if_pos h, if_pos h, hw i hi h]
    · rw [if_neg h, if_neg h]
  refine e4.trans ?_
  rw [smB_scale, hcnt]
  have hdv : Int.gcd (mtP k x).2.2.1 (k : Int) ∣ k := Int.natCast_dvd_natCast.1 (Int.gcd_dvd_right _ (k : Int))
  have := Nat.mul_div_cancel' hdv
  rw [Nat.mul_add, this]; omega
omit k1 in
theorem g1_zne (k3 : 3 ≤ k) : ∀ i, i < (olS 2 (k : Int)).length → fnz (olS 2 (k : Int)) (fnz (olS 2 (k : Int)) i) ≠ i := fun i hi e => by
  obtain ⟨hd, hpl⟩ := mtP_ok hc hi
  rw [← hpl, g1_SS hc hd, g1_pl hc (mSS_dt hd) hd, (mSS_row _).1, (mSS_row _).2] at e
  obtain ⟨⟨p, hp⟩, q, hq⟩ := e
  have hdd : (mtP k i).1 * (mtP k i).2.2.2 - (mtP k i).2.1 * (mtP k i).2.2.1 = 1 := hd
  have h2 : (k : Int) ∣ 2 := ⟨(mtP k i).2.1 * p - (mtP k i).1 * q, by grind⟩
  have := Int.le_of_dvd (by omega) h2
  omega
omit k1 in
theorem g1_mO (k3 : 3 ≤ k) : 2 * mO (fnz (olS 2 (k : Int))) (olS 2 (k : Int)).length = (olS 2 (k : Int)).length := by
  have ha := ol_act hc
  have h := pact_of ha
  have hne := g1_zne hc k3
  generalize (olS 2 (k : Int)).length = N at *
  generalize fnz (olS 2 (k : Int)) = g at *
  generalize fnz (olT 2 (k : Int)) = f at *
  have hL : Reps (fun i j => phO g N i = phO g N j) N ((List.range (mO g N)).map (lsO g N)) := by
    refine ⟨fun x hx => ?_, ?_, fun x hx y hy e => ?_, fun i hi => ?_⟩
    · obtain ⟨q, hq, rfl⟩ := List.mem_map.1 hx
      exact h.quo.le q (List.mem_range.1 hq)
    · refine nodup_map_on List.nodup_range fun a ha' b hb e => ?_
      rw [← h.quo.at_ a (List.mem_range.1 ha'), ← h.quo.at_ b (List.mem_range.1 hb), e]
    · obtain ⟨a, ha', rfl⟩ := List.mem_map.1 hx
      obtain ⟨b, hb, rfl⟩ := List.mem_map.1 hy
      rw [h.quo.at_ a (List.mem_range.1 ha'), h.quo.at_ b (List.mem_range.1 hb)] at e
      rw [e]
    · refine ⟨lsO g N (phO g N i), List.mem_map.2 ⟨_, List.mem_range.2 (h.quo.lt i hi), rfl⟩, ?_⟩
      exact h.quo.at_ _ (h.quo.lt i hi)
  have h1 := cls_weight (K := 2) (R := fun i j => phO g N i = phO g N j) ⟨fun _ _ => rfl, fun _ _ _ _ e => e.symm, fun _ _ _ _ _ _ e e' => e.trans e'⟩ hL (fun _ => 1) fun x hx => ?_
  · rw [smB_ones, List.length_map, List.length_range] at h1
    exact h1.symm
  · have hxN := hL.lt x hx
    have hzx : g (g x) < N := h.zl x hxN
    rw [smB_congr (h' := fun i => (if i = x then 1 else 0) + if i = g (g x) then 1 else 0) N fun i hi => ?_, smB_add, smB_one 1 x N hxN, smB_one 1 _ N hzx]
    have hiff := h.quo.iff x i hxN hi
    by_cases e : i = x
    · subst e
      rw [if_pos rfl, if_pos rfl, if_neg fun e => hne i hi e.symm]
    · by_cases e2 : i = g (g x)
      · rw [if_pos (hiff.2 (.inr e2)), if_neg e, if_pos e2]
      · rw [if_neg (fun e3 => (hiff.1 e3).elim e e2), if_neg e, if_neg e2]
omit k1 in
theorem g1_n3 (k4 : 4 ≤ k) : n3Z (fnz (olS 2 (k : Int))) (fnz (olT 2 (k : Int))) (olS 2 (k : Int)).length = 0 := by
  have ha := ol_act hc
  have h := pact_of ha
  have hno : ∀ i, i < (olS 2 (k : Int)).length → ¬ (i = fnz (olT 2 (k : Int)) (fnz (olS 2 (k : Int)) i) ∨ i = zOf (fnz (olS 2 (k : Int))) (fnz (olT 2 (k : Int)) (fnz (olS 2 (k : Int)) i))) := fun i hi e => by
    obtain ⟨hd, hpl⟩ := mtP_ok hc hi
    have hdS : dtM (mS (mtP k i)) = 1 := by rw [dtM_S]; exact hd
    have hdT : dtM (mT (mS (mtP k i))) = 1 := by rw [dtM_T]; exact hdS
    have hu : fnz (olT 2 (k : Int)) (fnz (olS 2 (k : Int)) i) = plC (kco 2 (k : Int)) (idxN 2 ((k : Int)).toNat) (mT (mS (mtP k i))) := by
      have h1 := g1_S hc hd
      have h2 := g1_T hc hdS 1
      rw [hpl] at h1
      rw [h1]
      exact h2
    have hdd : (mtP k i).1 * (mtP k i).2.2.2 - (mtP k i).2.1 * (mtP k i).2.2.1 = 1 := hd
    have h3 : (k : Int) ∣ 3 := by
      rcases e with e | e
      · rw [hu] at e
        have e' := hpl.trans e
        rw [g1_pl hc hd hdT] at e'
        obtain ⟨⟨p, hp⟩, q, hq⟩ := e'
        have hp : (mtP k i).2.2.1 - (mtP k i).2.2.2 = (k : Int) * p := hp
        have hq : (mtP k i).2.2.2 - ((mtP k i).2.2.2 + -(mtP k i).2.2.1) = (k : Int) * q := hq
        exact ⟨3 * ((mtP k i).1 * (q - p) - (mtP k i).2.1 * q), by grind⟩
      · rw [hu] at e
        have hs := g1_SS hc hdT
        have e' := hpl.trans (e.trans hs)
        rw [g1_pl hc hd (mSS_dt hdT), (mSS_row _).1, (mSS_row _).2] at e'
        obtain ⟨⟨p, hp⟩, q, hq⟩ := e'
        have hp : (mtP k i).2.2.1 - -(mtP k i).2.2.2 = (k : Int) * p := hp
        have hq : (mtP k i).2.2.2 - -((mtP k i).2.2.2 + -(mtP k i).2.2.1) = (k : Int) * q := hq
        exact ⟨(mtP k i).1 * (p + q) - (mtP k i).2.1 * (2 * p - q), by grind⟩
    have := Int.le_of_dvd (by omega) h3
    omega
  have : ∀ m, m ≤ mO (fnz (olS 2 (k : Int))) (olS 2 (k : Int)).length → cntB (fun q => decide (tO (fnz (olS 2 (k : Int))) (fnz (olT 2 (k : Int))) (olS 2 (k : Int)).length (sO (fnz (olS 2 (k : Int))) (olS 2 (k : Int)).length q) = q)) m = 0 := fun m => by
    induction m with
    | zero => intro _; rfl
    | succ m ih =>
      intro hm
      rw [cntB, ih (by omega), if_neg]
      intro e
      have e := of_decide_eq_true e
      obtain ⟨i, hi, hq⟩ := h.onto m (by omega)
      rw [← hq, h.ds i hi, h.dt _ (h.gp.lt i hi)] at e
      exact hno i hi ((h.quo.iff _ _ (h.fp.lt _ (h.gp.lt i hi)) hi).1 e)
  exact this _ (Nat.le_refl _)
end
end Go.Proofs.Ytmikhkolbkdnpaa
namespace Go.Proofs.Ytmikhkolbkdnpaa
open Go.RowKit
set_option linter.unusedVariables false
set_option linter.unusedSimpArgs false

def dvP (n t : Nat) : List Nat := (List.range (t + 1)).filter fun d => decide (1 ≤ d) && decide (n % d = 0)
theorem dvP_zero (n : Nat) : dvP n 0 = [] := by unfold dvP; simp [List.range_succ]
theorem dvP_yes {n t : Nat} (h : n % (t + 1) = 0) : dvP n (t + 1) = dvP n t ++ [t + 1] := by
  unfold dvP
  rw [List.range_succ (n := t + 1), List.filter_append]
  simp [h]
theorem dvP_no {n t : Nat} (h : n % (t + 1) ≠ 0) : dvP n (t + 1) = dvP n t := by
  unfold dvP
  rw [List.range_succ (n := t + 1), List.filter_append]
  simp [h]
theorem dvP_len (n t : Nat) : (dvP n t).length ≤ t + 1 := by
  have := List.length_filter_le (fun d => decide (1 ≤ d) && decide (n % d = 0)) (List.range (t + 1))
  rwa [List.length_range] at this
structure DV (w wr : World) (v : Value) (L : List Nat) : Prop where
  own : wr.ownsRow w.heap.size 3 1 v L.length (zs (iz L))
  bel : Below w.heap.size w wr
theorem DV.push {w wr w' : World} {v v' : Value} {L : List Nat} {p : Nat} {o : Obj} (h : DV w wr v L) (hown : w'.ownsRow w.heap.size 3 1 v' (L.length + 1) (zs (iz L) ++ [.int .i64 (p : Nat)])) (hg : (wr.alloc o).grownBy w' v.ownBlock) : DV w w' v' (L ++ [p]) :=
  ⟨by rw [List.length_append, iz_append, zs_append]; exact hown, (h.bel.alloc h.bel.size o).grown hg (by have := h.bel.size; simp; omega) fun j hj => (h.own.lt j hj).1⟩
set_option maxHeartbeats 3200000 in
set_option maxRecDepth 1000000 in
theorem rdiv_any (n : Nat) (w : World) (n1 : 1 ≤ n) (n2 : (n : Int) ≤ 120) :
    Calls Try.prog 53 #[.int .i64 (n : Int)] w fun e w' => ∃ A c, e = .returned (.slice A (dvN n).length c) ∧ DV w w' (.slice A (dvN n).length c) (dvN n) := by
  obtain ⟨i0, hi0, z0, z1, z2⟩ := info_parts Try.infoInt
  have HE : Hid (dvP n n = dvN n) := rfl
  have H0 := Lib.hid (dvP_zero n)
  have HL := Lib.hid (dvP_len n)
  have HY := Lib.hid (fun t (h : n % (t + 1) = 0) => dvP_yes h)
  have HN := Lib.hid (fun t (h : n % (t + 1) ≠ 0) => dvP_no h)
  go_enter Try.func53, Try.ntmps53
  go_wp2
  go_loopw [3, 4] (fun V I wr => ∃ (t : Nat) (A : Option Addr) (c : Nat), I = .int .i64 ((t + 1 : Nat) : Int) ∧ V = .slice A (dvP n t).length c ∧ t ≤ n ∧ Hid (DV w wr (.slice A (dvP n t).length c) (dvP n t))) (fun _ I _ => n + 1 - (intOf I).toNat)
  case atStart => exact ⟨0, none, 0, rfl, by rw [H0.out]; rfl, Nat.zero_le _, by rw [H0.out]; exact ⟨World.ownsRow_nil _ _ _ _, Below.refl _ _⟩⟩
  case round =>
    obtain ⟨t, A, c, rfl, rfl, ht, HV⟩ := hrel
    by_cases htn : t < n
    · have hti : (((t + 1 : Nat)) : Int) ≤ (n : Int) := by omega
      have hll := HL.out t
      have hmod : (n : Int) % ((t + 1 : Nat) : Int) = ((n % (t + 1) : Nat) : Int) := (Int.natCast_emod n (t + 1)).symm
      obtain ⟨u, hu⟩ : ∃ u, u = t + 1 := ⟨_, rfl⟩
      have hY := HY.out t
      have hN := HN.out t
      rw [← hu] at hti hmod hY hN ⊢
      have hu1 : 1 ≤ (u : Int) := by omega
      have hu0 : ((u : Int) == 0) = false := by rw [beq_eq_false_iff_ne]; omega
      have hu2 : (u : Int) ≤ 120 := by omega
      have HU := Lib.hid hu
      have hll2 : (dvP n t).length ≤ 121 := by omega
      clear hu hll
      by_cases e : n % u = 0
      · have HP := Lib.hid (hY e)
        rw [e] at hmod
        clear hY hN e
        generalize dvP n t = L at *
        have hown := HV.out.own
        have hsz := HV.out.bel.size
        go_wp2_with (at_builtin; (refine wpList_append_own_at _ rfl _ _ 22 rfl w.heap.size 3 i0 (.int .i64 0) 1 8 Try.underlying22 hi0 z0 z1 z2 rfl (by decide) _ _ _ rfl (hown.alloc _) ⟨wr.heap.size, 0, none⟩ 1 1 [.int .i64 (u : Nat)] rfl rfl (cell_one_new' _ _ _) (fun x hx => by simp at hx; rw [hx]; rfl) (by unfold maxLen; omega) (by omega) (by simp; omega) ?_); intro v' w4 hown4 hg4 hnil4 hat4; obtain ⟨A2, c2, rfl⟩ := own_len hown4; have HN4 := Lib.hid (HV.out.push hown4 hg4); clear hown4 hg4 hnil4 hat4)
        go_roundw
        case rel => exact ⟨u, A2, c2, by go_num, by rw [HP.out, List.length_append]; rfl, by have := HU.out; omega, by rw [HP.out, List.length_append]; exact HN4.out⟩
        case measure => have := HU.out; simp [intOf]; omega
      · have HP := Lib.hid (hN e)
        have hne : (((n : Int) % (u : Int)) == 0) = false := by rw [hmod, beq_eq_false_iff_ne]; omega
        clear hY hN e hmod
        go_wp2
        go_roundw
        case rel => exact ⟨u, A, c, by go_num, by rw [HP.out], by have := HU.out; omega, by rw [HP.out]; exact HV.out⟩
        case measure => have := HU.out; simp [intOf]; omega
    · obtain rfl : t = n := by omega
      have hk3 : ¬ (((t + 1 : Nat)) : Int) ≤ (t : Int) := by omega
      rw [HE.out] at HV ⊢
      go_wp2
      go_ret
      exact ⟨A, c, rfl, HV.out⟩
def cpB (g i : Nat) : Bool := decide (Nat.gcd (i + 1) g = 1)
def rphV (g : Nat) : Nat := cntB (cpB g) g
set_option maxHeartbeats 3200000 in
set_option maxRecDepth 1000000 in
theorem rphi_any (g : Nat) (w : World) (g1 : 1 ≤ g) (g2 : (g : Int) ≤ 120) :
    Calls Try.prog 52 #[.int .i64 (g : Int)] w fun e w' => e = .returned (.int .i64 (rphV g : Nat)) ∧ Below w.heap.size w w' := by
  have HE : Hid (cntB (cpB g) g = rphV g) := rfl
  have HS := Lib.hid (fun k => show cntB (cpB g) (k + 1) = cntB (cpB g) k + (if cpB g k = true then 1 else 0) from rfl)
  have HL := Lib.hid (fun k => cntB_leS (cpB g) k)
  have HC : Hid (∀ k, cpB g k = decide (Nat.gcd (k + 1) g = 1)) := fun k => rfl
  have HG : Hid (∀ (u : Nat) W, (u : Int) ≤ 121 → Calls Try.prog 69 #[.int .i64 (u : Int), .int .i64 (g : Int)] W fun e w' => e = .returned (.int .i64 (Nat.gcd u g : Nat)) ∧ ∃ n, w' = W.drewN n) := fun u W h => by
    have := rGcd_any (u : Int) (g : Int) W (by unfold Mid; omega) (by unfold Mid; omega)
    rwa [show Int.gcd (u : Int) (g : Int) = Nat.gcd u g from rfl] at this
  go_enter Try.func52, Try.ntmps52
  go_wp2
  go_loopw [3, 4] (fun C I wr => ∃ t : Nat, I = .int .i64 ((t + 1 : Nat) : Int) ∧ C = .int .i64 (cntB (cpB g) t : Nat) ∧ t ≤ g ∧ Hid (Below w.heap.size w wr)) (fun _ I _ => g + 1 - (intOf I).toNat)
  case atStart => exact ⟨0, rfl, rfl, Nat.zero_le _, Below.refl _ _⟩
  case round =>
    obtain ⟨t, rfl, rfl, ht, HW⟩ := hrel
    by_cases htn : t < g
    · have hti : (((t + 1 : Nat)) : Int) ≤ (g : Int) := by omega
      have hl := HL.out t
      have hs := Lib.hid (HS.out t)
      have hcn := HC.out t
      generalize cntB (cpB g) t = c at *
      have hci : (c : Int) ≤ 120 := by omega
      obtain ⟨u, hu⟩ : ∃ u, u = t + 1 := ⟨_, rfl⟩
      rw [← hu] at hti hcn hs ⊢
      have HGu := Lib.hid (fun W => HG.out u W (by omega))
      have HU := Lib.hid hu
      clear hu
      by_cases e : Nat.gcd u g = 1
      · have hN : Hid (cntB (cpB g) u = c + 1) := by show _ = _; rw [hs.out, hcn, if_pos (decide_eq_true e)]
        rw [e] at HGu
        clear hs hcn e
        go_wp2_with (first
          | (go_at_call 69; ((with_reducible refine (HGu.out _).mono ?_); rintro e w3 ⟨rfl, n1', rfl⟩))
          | fail)
        go_roundw
        case rel => exact ⟨u, by go_num, by rw [hN.out]; go_num, by have := HU.out; omega, below_drewN HW.out _⟩
        case measure => have := HU.out; simp [intOf]; omega
      · have hne : (((Nat.gcd u g : Nat) : Int) == 1) = false := by rw [beq_eq_false_iff_ne]; omega
        have hN : Hid (cntB (cpB g) u = c) := by show _ = _; rw [hs.out, hcn, if_neg (by simpa using e)]; rfl
        clear hs hcn e
        generalize Nat.gcd u g = z at *
        go_wp2_with (first
          | (go_at_call 69; ((with_reducible refine (HGu.out _).mono ?_); rintro e w3 ⟨rfl, n1', rfl⟩))
          | fail)
        go_roundw
        case rel => exact ⟨u, by go_num, by rw [hN.out], by have := HU.out; omega, below_drewN HW.out _⟩
        case measure => have := HU.out; simp [intOf]; omega
    · obtain rfl : t = g := by omega
      have hk3 : ¬ (((t + 1 : Nat)) : Int) ≤ (t : Int) := by omega
      go_wp2
      go_ret
      exact ⟨ret_int' (by rw [HE.out]), HW.out⟩
/-- Whether p is prime, by trial. -/
def prR (p : Nat) : Nat → Bool
  | 0 => true
  | j + 1 => prR p j && decide (p % (j + 2) ≠ 0)
def primeB (p : Nat) : Bool := prR p (p - 2)
def psR (n : Nat) : Nat → Nat
  | 0 => n
  | t + 1 => if (primeB (t + 2) && decide (n % (t + 2) = 0)) = true then psR n t / (t + 2) * (t + 3) else psR n t
def symC (A p x : Nat) : Bool := decide ((x * x + (if A = 4 then 0 else x) + 1) % p = 0)
def symV (A p : Nat) : Int := if (A = 4 ∧ p = 2) ∨ (A = 3 ∧ p = 3) then 0 else if (List.range p).any (symC A p) = true then 1 else -1
def prD (A n : Nat) : Nat → Int
  | 0 => 1
  | t + 1 => if (primeB (t + 2) && decide (n % (t + 2) = 0)) = true then prD A n t * (1 + symV A (t + 2)) else prD A n t
def rfOk (n : Nat) : Bool := n == 0 || ((List.range n).all (fun t => decide (psR n t ≤ 1000) && decide (0 ≤ prD 3 n t) && decide (prD 3 n t ≤ 1000) && decide (0 ≤ prD 4 n t) && decide (prD 4 n t ≤ 1000)) && psR n (n - 1) == psV n && (n % 4 == 0 || prD 4 n (n - 1) == rtV 4 4 n) && (n % 9 == 0 || prD 3 n (n - 1) == rtV 3 9 n) && rphV n == phV n)
set_option maxRecDepth 100000 in
theorem rf_all : (List.range 121).all rfOk = true := by decide +kernel
structure RfF (n : Nat) : Prop where
  p : ∀ t, t < n → psR n t ≤ 1000
  d3 : ∀ t, t < n → 0 ≤ prD 3 n t ∧ prD 3 n t ≤ 1000
  d4 : ∀ t, t < n → 0 ≤ prD 4 n t ∧ prD 4 n t ≤ 1000
  ps : psR n (n - 1) = psV n
  e4 : n % 4 ≠ 0 → prD 4 n (n - 1) = rtV 4 4 n
  e3 : n % 9 ≠ 0 → prD 3 n (n - 1) = rtV 3 9 n
  ph : rphV n = phV n
theorem rf_of {n : Nat} (n1 : 1 ≤ n) (n2 : n ≤ 120) : RfF n := by
  have h := List.all_eq_true.1 rf_all n (List.mem_range.2 (by omega))
  unfold rfOk at h
  rw [Bool.or_eq_true] at h
  rcases h with h | h
  · simp at h; omega
  · simp only [Bool.and_eq_true, Bool.or_eq_true, beq_iff_eq, List.all_eq_true, List.mem_range, decide_eq_true_eq] at h
    obtain ⟨⟨⟨⟨h1, h2⟩, h3⟩, h4⟩, h5⟩ := h
    exact ⟨fun t ht => (h1 t ht).1.1.1.1, fun t ht => ⟨(h1 t ht).1.1.1.2, (h1 t ht).1.1.2⟩, fun t ht => ⟨(h1 t ht).1.2, (h1 t ht).2⟩, h2, fun h => h3.resolve_left h, fun h => h4.resolve_left h, h5⟩
end Go.Proofs.Ytmikhkolbkdnpaa
namespace Go.Proofs.Ytmikhkolbkdnpaa
open Go.RowKit
set_option linter.unusedVariables false
set_option linter.unusedSimpArgs false

set_option maxHeartbeats 800000 in
theorem level0_any (n : Int) (w : World) : Calls Try.prog 51 #[.int .i64 n] w fun e w' => e = .returned (.int .i64 (lvI n)) ∧ w = w' := by
  by_cases h1 : n < 1
  · rw [lv_no (.inl h1)]
    go_enter Try.func51, Try.ntmps51
    go_wp2
    go_ret
    exact ⟨rfl, rfl⟩
  by_cases h2 : 120 < n
  · rw [lv_no (.inr h2)]
    go_enter Try.func51, Try.ntmps51
    go_wp2
    go_ret
    exact ⟨rfl, rfl⟩
  · rw [lv_yes (by omega) (by omega)]
    go_enter Try.func51, Try.ntmps51
    go_wp2
    go_ret
    exact ⟨rfl, rfl⟩
set_option maxHeartbeats 3200000 in
set_option maxRecDepth 1000000 in
theorem rcount0_any (n : Nat) (w : World) (n1 : 1 ≤ n) (n2 : (n : Int) ≤ 120) :
    Calls Try.prog 44 #[.int .i64 (n : Int)] w fun e w' => e = .returned (.tuple #[.int .i64 (cuV n : Nat), .int .i64 0]) ∧ Below w.heap.size w w' := by
  have HLv := Lib.hid (fun W => level0_any (n : Int) W)
  rw [lv_yes (by omega) n2] at HLv
  have HD := Lib.hid (fun W => rdiv_any n W n1 n2)
  have hDl := (dvN_bd n1 (by omega)).1
  have HMem := Lib.hid (dvN_bd n1 (by omega)).2
  have HP : Hid (cuF n ((dvN n).take (dvN n).length) 0 = cuV n) := by show _ = _; rw [List.take_length]; rfl
  have HPh : Hid (∀ (g : Nat), 1 ≤ g → (g : Int) ≤ 120 → ∀ W, Calls Try.prog 52 #[.int .i64 (g : Int)] W fun e w' => e = .returned (.int .i64 (phV g : Nat)) ∧ Below W.heap.size W w') := fun g h1 h2 W => by
    have := rphi_any g W h1 h2
    rwa [(rf_of h1 (by omega)).ph] at this
  have HGc : Hid (∀ (a b : Nat) W, (a : Int) ≤ 120 → (b : Int) ≤ 120 → Calls Try.prog 69 #[.int .i64 (a : Int), .int .i64 (b : Int)] W fun e w' => e = .returned (.int .i64 (Nat.gcd a b : Nat)) ∧ ∃ n, w' = W.drewN n) := fun a b W h1 h2 => by
    have := rGcd_any (a : Int) (b : Int) W (by unfold Mid; omega) (by unfold Mid; omega)
    rwa [show Int.gcd (a : Int) (b : Int) = Nat.gcd a b from rfl] at this
  generalize dvN n = D at *
  go_enter Try.func44, Try.ntmps44
  go_wp2_with (first
    | (go_at_call 51; ((with_reducible refine (HLv.out _).mono ?_); rintro e w' ⟨rfl, rfl⟩))
    | (go_at_call 53; ((with_reducible refine (HD.out _).mono ?_); rintro e w2 ⟨la, lc, rfl, hv⟩; have HO := Lib.hid hv.own; have HB2 := Lib.hid hv.bel; clear hv))
    | fail)
  clear HLv HD
  go_loopw [5, 7] (fun X I wr => ∃ k x : Nat, I = .int .i64 k ∧ X = .int .i64 x ∧ k ≤ D.length ∧ x ≤ 120 * k ∧ Hid (cuF n (D.take k) 0 = x) ∧ Hid (Below w2.heap.size w2 wr)) (fun _ I _ => D.length - (intOf I).toNat)
  case atStart => exact ⟨0, 0, rfl, rfl, Nat.zero_le _, Nat.le_refl _, rfl, Below.refl _ _⟩
  case round =>
    obtain ⟨k, x, rfl, rfl, hk, hx, HX, HW⟩ := hrel
    by_cases hkl : k < D.length
    · have hkli : (k : Int) < (D.length : Int) := by omega
      obtain ⟨g, rfl, hg0⟩ := own_some HO.out (by omega)
      have hg := (HO.out.lt g rfl).2
      have hc0 := HO.out.cells (g := g) rfl k (.int .i64 (D[k] : Nat)) (by simp [zs, iz, hkl])
      rw [addr_add] at hc0
      obtain ⟨m1, m2, m3⟩ := HMem.out D[k] (List.getElem_mem _)
      have x1 : wr.cell? ⟨g, k, none⟩ = some (.int .i64 (D[k] : Nat)) := (HW.out.cell (p := ⟨g, k, none⟩) hg).trans hc0
      have hgw : g < wr.heap.size := Nat.lt_of_lt_of_le hg HW.out.size
      have HN : Hid (cuF n (D.take (k + 1)) 0 = x + phV (Nat.gcd D[k] (n / D[k]))) := by
        show _ = _
        rw [List.take_add_one, List.getElem?_eq_getElem hkl, Option.toList_some, cuF_append, HX.out]; rfl
      clear hc0 HX m2
      generalize D[k] = d at *
      have hd : (n : Int) / (d : Int) = ((n / d : Nat) : Int) := (Int.natCast_ediv _ _).symm
      have htd : Int.tdiv (n : Int) (d : Int) = ((n / d : Nat) : Int) := (Int.ofNat_tdiv _ _).symm
      have hq2 : n / d ≤ 120 := Nat.le_trans (Nat.div_le_self _ _) (by omega)
      have HG := Lib.hid (fun W => HGc.out d (n / d) W (by omega) (by omega))
      have g1 : 1 ≤ Nat.gcd d (n / d) := Nat.gcd_pos_of_pos_left _ (by omega)
      have g2 : Nat.gcd d (n / d) ≤ 120 := Nat.le_trans (Nat.gcd_le_left _ (by omega)) m3
      have HF := Lib.hid (HPh.out (Nat.gcd d (n / d)) g1 (by omega))
      have hf := phV_le (Nat.gcd d (n / d))
      generalize phV (Nat.gcd d (n / d)) = f at *
      generalize Nat.gcd d (n / d) = u at *
      generalize n / d = q at *
      have hd1 : 1 ≤ (d : Int) := by omega
      have hd2 : (d : Int) ≤ 120 := by omega
      have hd0 : ((d : Int) == 0) = false := by rw [beq_eq_false_iff_ne]; omega
      have hd01 : ¬ ((d : Int) = 0) := by omega
      have hd02 : ¬ (d = 0) := by omega
      have hwq : IntKind.i64.wrap (q : Int) = (q : Int) := IntWalk.i64_in _ (by omega)
      have hxf : IntKind.i64.wrap ((x : Int) + (f : Int)) = (x : Int) + (f : Int) := IntWalk.i64_in _ (by omega)
      have HWd : Hid (Below w2.heap.size w2 wr.drew) := HW.out.drew
      have HKc : Hid (∀ W, Below wr.heap.size wr W → W.cell? ⟨g, k, none⟩ = some (.int .i64 (d : Nat))) := fun W hb => (hb.cell (p := ⟨g, k, none⟩) hgw).trans x1
      have D0 : Hid (Below wr.heap.size wr wr.drew) := Below.drew (Below.refl _ _)
      go_upto_region 9 with fail
      go_region_held3 (fun w' => w'.cell? ⟨g, k, none⟩ = some (.int .i64 (d : Nat)))
        (with_reducible first | exact HKc.out _ D2.out | exact HKc.out _ (below_drewN (Below.refl _ wr) _) | exact HKc.out _ D0.out | fail)
        (first
          | (go_at_call 69; ((with_reducible refine (HG.out _).mono ?_); rintro e w3 ⟨rfl, n1', rfl⟩; have D1 : Hid (Below wr.heap.size wr (wr.drewN (1 + n1'))) := below_drewN (Below.refl _ wr) _))
          | (go_at_call 52; ((with_reducible refine (HF.out _).mono ?_); rintro e w4 ⟨rfl, hb⟩; have D2 := Lib.hid (bel0 D1.out hb); clear hb))
          | fail)
      clear hxf hwq htd hd01 hd02
      go_wp2
      go_roundw
      case rel => exact ⟨k + 1, x + f, by go_num, by go_num, by omega, by omega, HN.out, HW.out.trans (D2.out.mono HW.out.size)⟩
      case measure => simp [intOf]; omega
    · obtain rfl : k = D.length := by omega
      have hk3 : ¬ (D.length : Int) < (D.length : Int) := by omega
      have HE : Hid ((x : Int) = (cuV n : Nat)) := by show _ = _; rw [← HP.out, HX.out]
      go_wp2
      refine bodyPost_ret (v := .tuple #[.int .i64 (x : Int), .int .i64 0]) ?_ rfl ⟨by rw [HE.out], HB2.out.trans (HW.out.mono HB2.out.size)⟩
      simp [results, Try.results44, go_sem, *]
end Go.Proofs.Ytmikhkolbkdnpaa
namespace Go.Proofs.Ytmikhkolbkdnpaa
open Go.RowKit
set_option linter.unusedVariables false
set_option linter.unusedSimpArgs false

set_option maxHeartbeats 3200000 in
set_option maxRecDepth 1000000 in
theorem rpsi_any (n : Nat) (w : World) (n1 : 1 ≤ n) (n2 : (n : Int) ≤ 120) :
    Calls Try.prog 45 #[.int .i64 (n : Int)] w fun e w' => e = .returned (.int .i64 (psV n : Nat)) ∧ Below w.heap.size w w' := by
  have hrf := rf_of n1 (show n ≤ 120 by omega)
  have HE := Lib.hid hrf.ps
  have HB := Lib.hid hrf.p
  clear hrf
  have H0 : Hid (psR n 0 = n) := rfl
  have HS := Lib.hid (fun t => show psR n (t + 1) = (if (primeB (t + 2) && decide (n % (t + 2) = 0)) = true then psR n t / (t + 2) * (t + 3) else psR n t) from rfl)
  go_enter Try.func45, Try.ntmps45
  go_wp2
  go_loopw [3, 4, 5, 6] (fun X P _ _ wr => ∃ t : Nat, P = .int .i64 ((t + 2 : Nat) : Int) ∧ X = .int .i64 (psR n t : Nat) ∧ t < n ∧ wr = w) (fun _ P _ _ _ => n + 1 - (intOf P).toNat)
  case atStart => exact ⟨0, rfl, by rw [H0.out], by omega, rfl⟩
  case round =>
    obtain ⟨t, rfl, rfl, ht, rfl⟩ := hrel
    by_cases htn : t + 2 ≤ n
    · have hti : (((t + 2 : Nat)) : Int) ≤ (n : Int) := by omega
      have hb := HB.out t ht
      have hb' := HB.out (t + 1) (by omega)
      have hs := HS.out t
      obtain ⟨p, hp⟩ : ∃ p, p = t + 2 := ⟨_, rfl⟩
      have HP2 : Hid (primeB p = prR p (p - 2)) := rfl
      have HR0 : Hid (prR p 0 = true) := rfl
      have HRS := Lib.hid (fun j => show prR p (j + 1) = (prR p j && decide (p % (j + 2) ≠ 0)) from rfl)
      rw [← hp] at hti hs ⊢
      rw [show t + 3 = p + 1 by omega] at hs
      rw [hs] at hb'
      have Hs := Lib.hid hs
      have Hp := Lib.hid hp
      have p2 : 2 ≤ (p : Int) := by omega
      have p3 : (p : Int) ≤ 120 := by omega
      clear hs hp
      generalize psR n t = x at *
      have hxi : (x : Int) ≤ 1000 := by omega
      go_wp2
      go_loopw [5, 6] (fun B Q wi => ∃ j : Nat, Q = .int .i64 ((j + 2 : Nat) : Int) ∧ B = .bool (prR p j) ∧ j + 2 ≤ p ∧ wi = wr) (fun _ Q _ => p - (intOf Q).toNat)
      case atStart => exact ⟨0, rfl, by rw [HR0.out], by have := Hp.out; omega, rfl⟩
      case round =>
        obtain ⟨j, rfl, rfl, hj, rfl⟩ := hrel
        by_cases hjp : j + 2 < p
        · have hji : (((j + 2 : Nat)) : Int) < (p : Int) := by omega
          have hR := HRS.out j
          have hmod : (p : Int) % ((j + 2 : Nat) : Int) = ((p % (j + 2) : Nat) : Int) := (Int.natCast_emod p (j + 2)).symm
          obtain ⟨q, hq⟩ : ∃ q, q = j + 2 := ⟨_, rfl⟩
          rw [← hq] at hji hR hmod hj ⊢
          have HQ := Lib.hid hq
          have hq1 : 2 ≤ (q : Int) := by omega
          have hq0 : ((q : Int) == 0) = false := by rw [beq_eq_false_iff_ne]; omega
          clear hq hjp hj
          cases hB : prR p j with
          | false =>
            rw [hB] at hR
            have hN : Hid (prR p (j + 1) = false) := by show _ = _; rw [hR]; rfl
            clear hR hB hmod
            go_wp2
            go_roundw
            case rel => exact ⟨j + 1, by have := HQ.out; go_num, by first | (rw [hN.out]; done) | (rw [hN.out]; exact congrArg Value.bool (by simp only [bne, hez]; rfl)), by have := HQ.out; omega, trivial⟩
            case measure => have := HQ.out; simp [intOf]; omega
          | true =>
            rw [hB] at hR
            by_cases e : p % q = 0
            · have hN : Hid (prR p (j + 1) = false) := by show _ = _; rw [hR, e]; rfl
              rw [e] at hmod
              have hez : ((p : Int) % (q : Int) == 0) = true := by rw [hmod]; rfl
              clear hR hB hmod e
              go_wp2
              go_roundw
              case rel => exact ⟨j + 1, by have := HQ.out; go_num, by first | (rw [hN.out]; done) | (rw [hN.out]; exact congrArg Value.bool (by simp only [bne, hez]; rfl)), by have := HQ.out; omega, trivial⟩
              case measure => have := HQ.out; simp [intOf]; omega
            · have hN : Hid (prR p (j + 1) = true) := by show _ = _; rw [hR]; simpa using e
              have hez : ((p : Int) % (q : Int) == 0) = false := by rw [hmod, beq_eq_false_iff_ne]; omega
              clear hR hB hmod e
              go_wp2
              go_roundw
              case rel => exact ⟨j + 1, by have := HQ.out; go_num, by first | (rw [hN.out]; done) | (rw [hN.out]; exact congrArg Value.bool (by simp only [bne, hez]; rfl)), by have := HQ.out; omega, trivial⟩
              case measure => have := HQ.out; simp [intOf]; omega
        · have hjp2 : j = p - 2 := by omega
          have hk3 : ¬ (((j + 2 : Nat)) : Int) < (p : Int) := by omega
          subst hjp2
          rw [← HP2.out]
          have HPj := Lib.hid hj
          have HPl : Hid ((p - 2 + 2 : Nat) = p) := by show _ = _; omega
          rw [HPl.out] at hk3 ⊢
          clear hjp hj
          have hmodn : (n : Int) % (p : Int) = ((n % p : Nat) : Int) := (Int.natCast_emod n p).symm
          have hp0 : ((p : Int) == 0) = false := by rw [beq_eq_false_iff_ne]; omega
          cases hPr : primeB p with
          | false =>
            have hN : Hid (psR n (t + 1) = x) := by show _ = _; rw [Hs.out, hPr]; rfl
            clear hPr hmodn hb'
            go_wp2
            go_roundw
            case rel => exact ⟨t + 1, by have := Hp.out; go_num, by rw [hN.out], by have := Hp.out; omega, trivial⟩
            case measure => have := Hp.out; simp [intOf]; omega
          | true =>
            by_cases e : n % p = 0
            · have hN : Hid (psR n (t + 1) = x / p * (p + 1)) := by show _ = _; rw [Hs.out, hPr, e]; rfl
              have hb2 : x / p * (p + 1) ≤ 1000 := by have := HB.out (t + 1) (by have := Hp.out; omega); rw [hN.out] at this; exact this
              rw [e] at hmodn
              have hez : ((n : Int) % (p : Int) == 0) = true := by rw [hmodn]; rfl
              clear hPr hmodn hb' e
              have hdv : (x : Int) / (p : Int) = ((x / p : Nat) : Int) := (Int.natCast_ediv _ _).symm
              have hml : ((x / p : Nat) : Int) * ((p : Int) + 1) = ((x / p * (p + 1) : Nat) : Int) := by simp
              have hd3 : x / p ≤ 1000 := by have := Nat.div_le_self x p; omega
              generalize x / p * (p + 1) = z at *
              generalize x / p = y at *
              have hd4 : (y : Int) ≤ 1000 := by omega
              have hz4 : (z : Int) ≤ 1000 := by omega
              clear hb2 hd3
              go_wp2
              go_roundw
              case rel => exact ⟨t + 1, by have := Hp.out; go_num, by rw [hN.out], by have := Hp.out; omega, trivial⟩
              case measure => have := Hp.out; simp [intOf]; omega
            · have hN : Hid (psR n (t + 1) = x) := by show _ = _; rw [Hs.out, hPr, if_neg (by simpa using e)]
              have hez : ((n : Int) % (p : Int) == 0) = false := by rw [hmodn, beq_eq_false_iff_ne]; omega
              clear hPr hmodn hb' e
              go_wp2
              go_roundw
              case rel => exact ⟨t + 1, by have := Hp.out; go_num, by rw [hN.out], by have := Hp.out; omega, trivial⟩
              case measure => have := Hp.out; simp [intOf]; omega
    · have HT : Hid (psR n t = psV n) := by show _ = _; rw [← HE.out, show n - 1 = t by omega]
      have hk3 : ¬ (((t + 2 : Nat)) : Int) ≤ (n : Int) := by omega
      rw [HT.out]
      generalize t + 2 = u at *
      go_wp2
      go_ret
      exact ⟨rfl, Below.refl _ _⟩
end Go.Proofs.Ytmikhkolbkdnpaa
namespace Go.Proofs.Ytmikhkolbkdnpaa
open Go.RowKit
set_option linter.unusedVariables false
set_option linter.unusedSimpArgs false

theorem symV4_sp : symV 4 2 = 0 := rfl
theorem symV4_yes {p t : Nat} (hp : p ≠ 2) (ht : t < p) (h : symC 4 p t = true) : symV 4 p = 1 := by
  unfold symV
  rw [if_neg (by omega), if_pos]
  exact List.any_eq_true.2 ⟨t, List.mem_range.2 ht, h⟩
theorem symV4_no {p : Nat} (hp : p ≠ 2) (h : ∀ j, j < p → symC 4 p j = false) : symV 4 p = -1 := by
  unfold symV
  rw [if_neg (by omega), if_neg]
  intro hc
  obtain ⟨j, hj, h1⟩ := List.any_eq_true.1 hc
  rw [h j (List.mem_range.1 hj)] at h1
  cases h1
set_option maxHeartbeats 3200000 in
set_option maxRecDepth 1000000 in
theorem rsym4_any (p : Nat) (w : World) (p1 : 2 ≤ p) (p2 : (p : Int) ≤ 120) :
    Calls Try.prog 70 #[.int .i64 (-4), .int .i64 (p : Int)] w fun e w' => e = .returned (.int .i64 (symV 4 p)) ∧ w = w' := by
  by_cases hsp : p = 2
  · subst hsp
    rw [symV4_sp]
    go_enter Try.func70, Try.ntmps70
    go_wp2
    go_ret
    exact ⟨rfl, rfl⟩
  · have HY := Lib.hid (fun t (ht : t < p) h => symV4_yes (t := t) hsp ht h)
    have HN := Lib.hid (symV4_no hsp)
    have HC := Lib.hid (fun t => show symC 4 p t = decide ((t * t + 1) % p = 0) by unfold symC; simp)
    have hpi : ((p : Int) == 2) = false := by rw [beq_eq_false_iff_ne]; omega
    clear hsp
    go_enter Try.func70, Try.ntmps70
    go_wp2
    go_loopw [5] (fun X wr => ∃ t : Nat, X = .int .i64 (t : Nat) ∧ t ≤ p ∧ Hid (∀ j, j < t → symC 4 p j = false) ∧ w = wr) (fun X _ => p - (intOf X).toNat)
    case atStart => exact ⟨0, rfl, Nat.zero_le _, fun _ h => by omega, rfl⟩
    case round =>
      obtain ⟨t, rfl, ht, HZ, rfl⟩ := hrel
      by_cases htp : t < p
      · have hti : (t : Int) < (p : Int) := by omega
        have hyt := Lib.hid (HY.out t htp)
        have hct := HC.out t
        have hmul : (t : Int) * (t : Int) = ((t * t : Nat) : Int) := by simp
        have hsq : t * t ≤ 120 * 120 := Nat.mul_le_mul (by omega) (by omega)
        generalize t * t = s at *
        have hsi : (s : Int) ≤ 14400 := by omega
        have hmod : ((s : Int) + 1) % (p : Int) = ((s + 1) % p : Nat) := by rw [Int.natCast_emod]; simp
        generalize (s + 1) % p = r at *
        have hp0 : ((p : Int) == 0) = false := by rw [beq_eq_false_iff_ne]; omega
        clear hsq
        by_cases e : r = 0
        · subst e
          have hval : Hid (symV 4 p = 1) := hyt.out (by rw [hct]; rfl)
          clear hct hyt
          go_wp2
          go_ret
          exact ⟨by rw [hval.out]; rfl, rfl⟩
        · have hr0 : ((r : Int) == 0) = false := by rw [beq_eq_false_iff_ne]; omega
          have hz : symC 4 p t = false := by rw [hct]; simpa using e
          have HZ2 : Hid (∀ j, j < t + 1 → symC 4 p j = false) := fun j hj => by
            by_cases h : j = t
            · rw [h]; exact hz
            · exact HZ.out j (by omega)
          clear hct hyt hz e
          go_wp2
          go_roundw
          case rel => exact ⟨t + 1, by go_num, by omega, HZ2, trivial⟩
          case measure => simp [intOf]; omega
      · obtain rfl : t = p := by omega
        have hk3 : ¬ (t : Int) < (t : Int) := by omega
        have hval : Hid (symV 4 t = -1) := HN.out HZ.out
        go_wp2
        go_ret
        exact ⟨by rw [hval.out]; rfl, rfl⟩
theorem symV3_sp : symV 3 3 = 0 := rfl
theorem symV3_yes {p t : Nat} (hp : p ≠ 3) (ht : t < p) (h : symC 3 p t = true) : symV 3 p = 1 := by
  unfold symV
  rw [if_neg (by omega), if_pos]
  exact List.any_eq_true.2 ⟨t, List.mem_range.2 ht, h⟩
theorem symV3_no {p : Nat} (hp : p ≠ 3) (h : ∀ j, j < p → symC 3 p j = false) : symV 3 p = -1 := by
  unfold symV
  rw [if_neg (by omega), if_neg]
  intro hc
  obtain ⟨j, hj, h1⟩ := List.any_eq_true.1 hc
  rw [h j (List.mem_range.1 hj)] at h1
  cases h1
set_option maxHeartbeats 3200000 in
set_option maxRecDepth 1000000 in
theorem rsym3_any (p : Nat) (w : World) (p1 : 2 ≤ p) (p2 : (p : Int) ≤ 120) :
    Calls Try.prog 70 #[.int .i64 (-3), .int .i64 (p : Int)] w fun e w' => e = .returned (.int .i64 (symV 3 p)) ∧ w = w' := by
  by_cases hsp : p = 3
  · subst hsp
    rw [symV3_sp]
    go_enter Try.func70, Try.ntmps70
    go_wp2
    go_ret
    exact ⟨rfl, rfl⟩
  · have HY := Lib.hid (fun t (ht : t < p) h => symV3_yes (t := t) hsp ht h)
    have HN := Lib.hid (symV3_no hsp)
    have HC := Lib.hid (fun t => show symC 3 p t = decide ((t * t + t + 1) % p = 0) by unfold symC; simp)
    have hpi : ((p : Int) == 3) = false := by rw [beq_eq_false_iff_ne]; omega
    clear hsp
    go_enter Try.func70, Try.ntmps70
    go_wp2
    go_loopw [5] (fun X wr => ∃ t : Nat, X = .int .i64 (t : Nat) ∧ t ≤ p ∧ Hid (∀ j, j < t → symC 3 p j = false) ∧ w = wr) (fun X _ => p - (intOf X).toNat)
    case atStart => exact ⟨0, rfl, Nat.zero_le _, fun _ h => by omega, rfl⟩
    case round =>
      obtain ⟨t, rfl, ht, HZ, rfl⟩ := hrel
      by_cases htp : t < p
      · have hti : (t : Int) < (p : Int) := by omega
        have hyt := Lib.hid (HY.out t htp)
        have hct := HC.out t
        have hmul : (t : Int) * (t : Int) = ((t * t : Nat) : Int) := by simp
        have hsq : t * t ≤ 120 * 120 := Nat.mul_le_mul (by omega) (by omega)
        generalize t * t = s at *
        have hsi : (s : Int) ≤ 14400 := by omega
        have hmod : ((s : Int) + (t : Int) + 1) % (p : Int) = ((s + t + 1) % p : Nat) := by rw [Int.natCast_emod]; simp
        generalize (s + t + 1) % p = r at *
        have hp0 : ((p : Int) == 0) = false := by rw [beq_eq_false_iff_ne]; omega
        clear hsq
        by_cases e : r = 0
        · subst e
          have hval : Hid (symV 3 p = 1) := hyt.out (by rw [hct]; rfl)
          clear hct hyt
          go_wp2
          go_ret
          exact ⟨by rw [hval.out]; rfl, rfl⟩
        · have hr0 : ((r : Int) == 0) = false := by rw [beq_eq_false_iff_ne]; omega
          have hz : symC 3 p t = false := by rw [hct]; simpa using e
          have HZ2 : Hid (∀ j, j < t + 1 → symC 3 p j = false) := fun j hj => by
            by_cases h : j = t
            · rw [h]; exact hz
            · exact HZ.out j (by omega)
          clear hct hyt hz e
          go_wp2
          go_roundw
          case rel => exact ⟨t + 1, by go_num, by omega, HZ2, trivial⟩
          case measure => simp [intOf]; omega
      · obtain rfl : t = p := by omega
        have hk3 : ¬ (t : Int) < (t : Int) := by omega
        have hval : Hid (symV 3 t = -1) := HN.out HZ.out
        go_wp2
        go_ret
        exact ⟨by rw [hval.out]; rfl, rfl⟩
end Go.Proofs.Ytmikhkolbkdnpaa
namespace Go.Proofs.Ytmikhkolbkdnpaa
open Go.RowKit
set_option linter.unusedVariables false
set_option linter.unusedSimpArgs false

theorem symV_bd (A p : Nat) : -1 ≤ symV A p ∧ symV A p ≤ 1 := by
  unfold symV
  split
  · omega
  · split <;> omega
set_option maxHeartbeats 3200000 in
set_option maxRecDepth 1000000 in
theorem rprod_any (A n : Nat) (d : Int) (w : World) (n1 : 1 ≤ n) (n2 : (n : Int) ≤ 120)
    (hb : ∀ t, t < n → 0 ≤ prD A n t ∧ prD A n t ≤ 1000)
    (hsy : ∀ (p : Nat) (w : World), 2 ≤ p → (p : Int) ≤ 120 → Calls Try.prog 70 #[.int .i64 d, .int .i64 (p : Int)] w fun e w' => e = .returned (.int .i64 (symV A p)) ∧ w = w') :
    Calls Try.prog 46 #[.int .i64 d, .int .i64 (n : Int)] w fun e w' => e = .returned (.int .i64 (prD A n (n - 1))) ∧ Below w.heap.size w w' := by
  have HB := Lib.hid hb
  have HSy := Lib.hid hsy
  clear hb hsy
  have H0 : Hid (prD A n 0 = 1) := rfl
  have HS := Lib.hid (fun t => show prD A n (t + 1) = (if (primeB (t + 2) && decide (n % (t + 2) = 0)) = true then prD A n t * (1 + symV A (t + 2)) else prD A n t) from rfl)
  have HYb := Lib.hid (fun p => symV_bd A p)
  go_enter Try.func46, Try.ntmps46
  go_wp2
  go_loopw [5, 6, 7, 8] (fun X P _ _ wr => ∃ t : Nat, P = .int .i64 ((t + 2 : Nat) : Int) ∧ X = .int .i64 (prD A n t) ∧ t < n ∧ Hid (Below w.heap.size w wr)) (fun _ P _ _ _ => n + 1 - (intOf P).toNat)
  case atStart => exact ⟨0, rfl, by rw [H0.out], by omega, Below.refl _ _⟩
  case round =>
    obtain ⟨t, rfl, rfl, ht, HW⟩ := hrel
    by_cases htn : t + 2 ≤ n
    · have hti : (((t + 2 : Nat)) : Int) ≤ (n : Int) := by omega
      have hb := HB.out t ht
      have hb' := HB.out (t + 1) (by omega)
      have hs := HS.out t
      obtain ⟨p, hp⟩ : ∃ p, p = t + 2 := ⟨_, rfl⟩
      have HP2 : Hid (primeB p = prR p (p - 2)) := rfl
      have HR0 : Hid (prR p 0 = true) := rfl
      have HRS := Lib.hid (fun j => show prR p (j + 1) = (prR p j && decide (p % (j + 2) ≠ 0)) from rfl)
      rw [← hp] at hti hs ⊢
      rw [hs] at hb'
      have Hs := Lib.hid hs
      have Hp := Lib.hid hp
      have p2 : 2 ≤ (p : Int) := by omega
      have p3 : (p : Int) ≤ 120 := by omega
      clear hs hp
      generalize prD A n t = x at *
      go_wp2
      go_loopw [7, 8] (fun B Q wi => ∃ j : Nat, Q = .int .i64 ((j + 2 : Nat) : Int) ∧ B = .bool (prR p j) ∧ j + 2 ≤ p ∧ wi = wr) (fun _ Q _ => p - (intOf Q).toNat)
      case atStart => exact ⟨0, rfl, by rw [HR0.out], by have := Hp.out; omega, rfl⟩
      case round =>
        obtain ⟨j, rfl, rfl, hj, rfl⟩ := hrel
        by_cases hjp : j + 2 < p
        · have hji : (((j + 2 : Nat)) : Int) < (p : Int) := by omega
          have hR := HRS.out j
          have hmod : (p : Int) % ((j + 2 : Nat) : Int) = ((p % (j + 2) : Nat) : Int) := (Int.natCast_emod p (j + 2)).symm
          obtain ⟨q, hq⟩ : ∃ q, q = j + 2 := ⟨_, rfl⟩
          rw [← hq] at hji hR hmod hj ⊢
          have HQ := Lib.hid hq
          have hq1 : 2 ≤ (q : Int) := by omega
          have hq0 : ((q : Int) == 0) = false := by rw [beq_eq_false_iff_ne]; omega
          clear hq hjp hj
          cases hB : prR p j with
          | false =>
            rw [hB] at hR
            have hN : Hid (prR p (j + 1) = false) := by show _ = _; rw [hR]; rfl
            clear hR hB hmod
            go_wp2
            go_roundw
            case rel => exact ⟨j + 1, by have := HQ.out; go_num, by first | (rw [hN.out]; done) | (rw [hN.out]; exact congrArg Value.bool (by simp only [bne, hez]; rfl)), by have := HQ.out; omega, trivial⟩
            case measure => have := HQ.out; simp [intOf]; omega
          | true =>
            rw [hB] at hR
            by_cases e : p % q = 0
            · have hN : Hid (prR p (j + 1) = false) := by show _ = _; rw [hR, e]; rfl
              rw [e] at hmod
              have hez : ((p : Int) % (q : Int) == 0) = true := by rw [hmod]; rfl
              clear hR hB hmod e
              go_wp2
              go_roundw
              case rel => exact ⟨j + 1, by have := HQ.out; go_num, by first | (rw [hN.out]; done) | (rw [hN.out]; exact congrArg Value.bool (by simp only [bne, hez]; rfl)), by have := HQ.out; omega, trivial⟩
              case measure => have := HQ.out; simp [intOf]; omega
            · have hN : Hid (prR p (j + 1) = true) := by show _ = _; rw [hR]; simpa using e
              have hez : ((p : Int) % (q : Int) == 0) = false := by rw [hmod, beq_eq_false_iff_ne]; omega
              clear hR hB hmod e
              go_wp2
              go_roundw
              case rel => exact ⟨j + 1, by have := HQ.out; go_num, by first | (rw [hN.out]; done) | (rw [hN.out]; exact congrArg Value.bool (by simp only [bne, hez]; rfl)), by have := HQ.out; omega, trivial⟩
              case measure => have := HQ.out; simp [intOf]; omega
        · have hjp2 : j = p - 2 := by omega
          have hk3 : ¬ (((j + 2 : Nat)) : Int) < (p : Int) := by omega
          subst hjp2
          rw [← HP2.out]
          have HPj := Lib.hid hj
          have HPl : Hid ((p - 2 + 2 : Nat) = p) := by show _ = _; omega
          rw [HPl.out] at hk3 ⊢
          clear hjp hj
          have hmodn : (n : Int) % (p : Int) = ((n % p : Nat) : Int) := (Int.natCast_emod n p).symm
          have hp0 : ((p : Int) == 0) = false := by rw [beq_eq_false_iff_ne]; omega
          cases hPr : primeB p with
          | false =>
            have hN : Hid (prD A n (t + 1) = x) := by show _ = _; rw [Hs.out, hPr]; rfl
            clear hPr hmodn hb'
            go_wp2
            go_roundw
            case rel => exact ⟨t + 1, by have := Hp.out; go_num, by rw [hN.out], by have := Hp.out; omega, by first | exact HW | exact HW.out.drew | exact below_drewN HW.out _⟩
            case measure => have := Hp.out; simp [intOf]; omega
          | true =>
            by_cases e : n % p = 0
            · have hN : Hid (prD A n (t + 1) = x * (1 + symV A p)) := by show _ = _; rw [Hs.out, hPr, e]; rfl
              have hb2 := HB.out (t + 1) (by have := Hp.out; omega)
              rw [hN.out] at hb2
              have hyb := HYb.out p
              rw [e] at hmodn
              have hez : ((n : Int) % (p : Int) == 0) = true := by rw [hmodn]; rfl
              clear hPr hmodn hb' e
              have HC := Lib.hid (fun W => HSy.out p W (by omega) p3)
              generalize symV A p = y at *
              have hml : x * (1 + y) = x * (1 + y) := rfl
              generalize hz : x * (1 + y) = z at *
              have HZ := Lib.hid hz
              obtain ⟨z1, z2⟩ := hb2
              obtain ⟨y1, y2⟩ := hyb
              have hy1 : IntKind.i64.wrap (1 + y) = 1 + y := IntWalk.i64_in _ (by omega)
              clear hml
              go_wp2_with (first
                | (go_at_call 70; ((with_reducible refine (HC.out _).mono ?_); rintro e w' ⟨rfl, rfl⟩))
                | fail)
              go_roundw
              case rel => exact ⟨t + 1, by have := Hp.out; go_num, by rw [hN.out], by have := Hp.out; omega, by first | exact HW | exact HW.out.drew | exact below_drewN HW.out _⟩
              case measure => have := Hp.out; simp [intOf]; omega
            · have hN : Hid (prD A n (t + 1) = x) := by show _ = _; rw [Hs.out, hPr, if_neg (by simpa using e)]
              have hez : ((n : Int) % (p : Int) == 0) = false := by rw [hmodn, beq_eq_false_iff_ne]; omega
              clear hPr hmodn hb' e
              go_wp2
              go_roundw
              case rel => exact ⟨t + 1, by have := Hp.out; go_num, by rw [hN.out], by have := Hp.out; omega, by first | exact HW | exact HW.out.drew | exact below_drewN HW.out _⟩
              case measure => have := Hp.out; simp [intOf]; omega
    · have HT : Hid (prD A n t = prD A n (n - 1)) := by show _ = _; rw [show n - 1 = t by omega]
      have hk3 : ¬ (((t + 2 : Nat)) : Int) ≤ (n : Int) := by omega
      rw [HT.out]
      generalize t + 2 = u at *
      go_wp2
      go_ret
      exact ⟨rfl, HW.out⟩
end Go.Proofs.Ytmikhkolbkdnpaa
namespace Go.Proofs.Ytmikhkolbkdnpaa
open Go.RowKit
set_option linter.unusedVariables false
set_option linter.unusedSimpArgs false

set_option maxHeartbeats 800000 in
theorem rcount0_bad (n : Int) (w : World) (hn : n < 1 ∨ 120 < n) :
    Calls Try.prog 44 #[.int .i64 n] w fun e w' => e = .returned (.tuple #[.int .i64 0, .int .i64 2]) ∧ Below w.heap.size w w' := by
  have HLv := Lib.hid (fun W => level0_any n W)
  rw [lv_no hn] at HLv
  clear hn
  go_enter Try.func44, Try.ntmps44
  go_wp2_with (first
    | (go_at_call 51; ((with_reducible refine (HLv.out _).mono ?_); rintro e w' ⟨rfl, rfl⟩))
    | fail)
  refine bodyPost_ret (v := .tuple #[.int .i64 0, .int .i64 2]) ?_ rfl ⟨rfl, Below.refl _ _⟩
  simp [results, Try.results44, go_sem]
set_option maxHeartbeats 3200000 in
set_option maxRecDepth 1000000 in
theorem rformula0_bad (n : Int) (w : World) (hn : n < 1 ∨ 120 < n) :
    Calls Try.prog 18 #[.int .i64 n] w fun e w' => e = .returned (.tuple #[.agg #[.int .i64 0, .int .i64 0, .int .i64 0, .int .i64 0, .int .i64 0, .int .i64 0, .bool false], .int .i64 2]) ∧ Below w.heap.size w w' := by
  have HCu := Lib.hid (fun W => rcount0_bad n W hn)
  have T0 : Hid ((w.alloc (.cells #[.int .i64 0, .int .i64 0, .int .i64 0, .int .i64 0, .int .i64 0, .int .i64 0, .bool false] 27)).heap[w.heap.size]? = some (.cells #[.int .i64 0, .int .i64 0, .int .i64 0, .int .i64 0, .int .i64 0, .int .i64 0, .bool false] 27 (0, 0))) := heap_alloc_new w _
  have HB0 : Hid (Below w.heap.size w (w.alloc (.cells #[.int .i64 0, .int .i64 0, .int .i64 0, .int .i64 0, .int .i64 0, .int .i64 0, .bool false] 27))) := below1 w _
  clear hn
  go_enter Try.func18, Try.ntmps18
  go_wp2_with (first
    | (go_at_call 44; ((with_reducible refine (HCu.out _).mono ?_); rintro e w1 ⟨rfl, hb⟩; have HB1 := Lib.hid (bel0 HB0.out hb); have T1 := Lib.hid (block_below T0.out hb); obtain ⟨⟨t0, t1, t2, t3, t4, t5, t6⟩, _⟩ := seven_of_block T1.out; clear hb))
    | fail)
  obtain ⟨⟨s0, s1, s2, s3, s4, s5, s6⟩, _⟩ := seven_of_block (seven_set T1.out (.int .i64 0) (.int .i64 0) (.int .i64 0) (.int .i64 0) (.int .i64 0) (.int .i64 0) (.bool false))
  refine bodyPost_ret (v := .tuple #[.agg #[.int .i64 0, .int .i64 0, .int .i64 0, .int .i64 0, .int .i64 0, .int .i64 0, .bool false], .int .i64 2]) ?_ rfl ⟨rfl, seven_bel HB1.out _ _ _ _ _ _ _⟩
  simp [results, Try.results18, go_sem, s0, s1, s2, s3, s4, s5, s6]
set_option maxHeartbeats 3200000 in
set_option maxRecDepth 1000000 in
theorem genus0_of (n x0 x1 x2 x3 x4 x5 z : Int) (x6 : Bool) (HF0 : ∀ W, Calls Try.prog 17 #[.int .i64 n] W fun e w' => e = .returned (.tuple #[.agg #[.int .i64 x0, .int .i64 x1, .int .i64 x2, .int .i64 x3, .int .i64 x4, .int .i64 x5, .bool x6], .int .i64 z]) ∧ Below W.heap.size W w') (w : World) :
    Calls Try.prog 20 #[.int .i64 n] w fun e w' => e = .returned (.tuple #[.int .i64 x1, .int .i64 z]) ∧ Below w.heap.size w w' := by
  have HF := Lib.hid HF0
  clear HF0
  go_enter Try.func20, Try.ntmps20
  go_upto_region 2 with (first
    | (go_at_call 17; ((with_reducible refine (HF.out _).mono ?_); rintro e w1 ⟨rfl, hb⟩; have HB1 := Lib.hid hb; clear hb))
    | fail)
  have P1 := Lib.hid (heap_alloc_new w1 (.cells #[.int .i64 x0, .int .i64 x1, .int .i64 x2, .int .i64 x3, .int .i64 x4, .int .i64 x5, .bool x6] 27))
  have HB2 := Lib.hid (HB1.out.alloc HB1.out.size (.cells #[.int .i64 x0, .int .i64 x1, .int .i64 x2, .int .i64 x3, .int .i64 x4, .int .i64 x5, .bool x6] 27))
  obtain ⟨W, hW⟩ : ∃ W, W = w1.alloc (.cells #[.int .i64 x0, .int .i64 x1, .int .i64 x2, .int .i64 x3, .int .i64 x4, .int .i64 x5, .bool x6] 27) := ⟨_, rfl⟩
  rw [← hW] at P1 HB2 ⊢
  clear hW
  obtain ⟨⟨t0, t1, t2, t3, t4, t5, t6⟩, _⟩ := seven_of_block P1.out
  go_wp2
  refine bodyPost_ret (v := .tuple #[.int .i64 x1, .int .i64 z]) ?_ rfl ⟨rfl, by first | exact HB2.out.drew | exact HB2.out⟩
  simp [results, Try.results20, go_sem]
set_option maxHeartbeats 3200000 in
set_option maxRecDepth 1000000 in
theorem rformula0_any (n : Nat) (w : World) (n1 : 1 ≤ n) (n2 : (n : Int) ≤ 120) :
    Calls Try.prog 18 #[.int .i64 (n : Int)] w fun e w' => e = .returned (.tuple #[.agg #[.int .i64 (psV n : Nat), .int .i64 (g0V n), .int .i64 (rtV 4 4 n), .int .i64 (rtV 3 9 n), .int .i64 (cuV n : Nat), .int .i64 0, .bool true], .int .i64 0]) ∧ Below w.heap.size w w' := by
  have HCu := Lib.hid (fun W => rcount0_any n W n1 n2)
  have HPs := Lib.hid (fun W => rpsi_any n W n1 n2)
  have hrf := rf_of n1 (show n ≤ 120 by omega)
  have HP4 : Hid (n % 4 ≠ 0 → ∀ W, Calls Try.prog 46 #[.int .i64 (-4), .int .i64 (n : Int)] W fun e w' => e = .returned (.int .i64 (rtV 4 4 n)) ∧ Below W.heap.size W w') := fun h W => by
    have := rprod_any 4 n (-4) W n1 n2 hrf.d4 fun p w => rsym4_any p w
    rwa [hrf.e4 h] at this
  have HP3 : Hid (n % 9 ≠ 0 → ∀ W, Calls Try.prog 46 #[.int .i64 (-3), .int .i64 (n : Int)] W fun e w' => e = .returned (.int .i64 (rtV 3 9 n)) ∧ Below W.heap.size W w') := fun h W => by
    have := rprod_any 3 n (-3) W n1 n2 hrf.d3 fun p w => rsym3_any p w
    rwa [hrf.e3 h] at this
  have HZ4 : Hid (n % 4 = 0 → rtV 4 4 n = 0) := fun h => by unfold rtV; rw [if_pos h]
  have HZ3 : Hid (n % 9 = 0 → rtV 3 9 n = 0) := fun h => by unfold rtV; rw [if_pos h]
  clear hrf
  have HG : Hid (∀ W, Calls Try.prog 33 #[.agg #[.int .i64 (psV n : Nat), .int .i64 0, .int .i64 (rtV 4 4 n), .int .i64 (rtV 3 9 n), .int .i64 (cuV n : Nat), .int .i64 0, .bool true]] W fun e w' => e = .returned (.agg #[.int .i64 (psV n : Nat), .int .i64 (g0V n), .int .i64 (rtV 4 4 n), .int .i64 (rtV 3 9 n), .int .i64 (cuV n : Nat), .int .i64 0, .bool true]) ∧ Below W.heap.size W w') := fun W => by
    have a := psV_le n1 (by omega)
    have b := cuV_le n1 (by omega)
    have c := rtV_bd (A := 4) (sq := 4) (n := n) (.inr rfl) n1 (by omega)
    have d := rtV_bd (A := 3) (sq := 9) (n := n) (.inl rfl) n1 (by omega)
    exact rgenus_any (psV n : Nat) 0 (rtV 4 4 n) (rtV 3 9 n) (cuV n : Nat) 0 true W (by omega) (by omega) (by omega) (by omega)
  generalize psV n = ps at *
  generalize cuV n = cu at *
  generalize rtV 4 4 n = r4 at *
  generalize rtV 3 9 n = r3 at *
  generalize g0V n = gg at *
  have h4 : (n : Int) % 4 = ((n % 4 : Nat) : Int) := by omega
  have h9 : (n : Int) % 9 = ((n % 9 : Nat) : Int) := by omega
  have T0 : Hid ((w.alloc (.cells #[.int .i64 0, .int .i64 0, .int .i64 0, .int .i64 0, .int .i64 0, .int .i64 0, .bool false] 27)).heap[w.heap.size]? = some (.cells #[.int .i64 0, .int .i64 0, .int .i64 0, .int .i64 0, .int .i64 0, .int .i64 0, .bool false] 27 (0, 0))) := heap_alloc_new w _
  have HB0 : Hid (Below w.heap.size w (w.alloc (.cells #[.int .i64 0, .int .i64 0, .int .i64 0, .int .i64 0, .int .i64 0, .int .i64 0, .bool false] 27))) := below1 w _
  go_enter Try.func18, Try.ntmps18
  go_upto_region 5 with (first
    | (go_at_call 44; ((with_reducible refine (HCu.out _).mono ?_); rintro e w1 ⟨rfl, hb⟩; have HB1 := Lib.hid (bel0 HB0.out hb); have T1 := Lib.hid (block_below T0.out hb); clear hb))
    | (go_at_call 45; ((with_reducible refine (HPs.out _).mono ?_); rintro e w2 ⟨rfl, hb⟩; have HB2 := Lib.hid (bel0 HB1.out hb); have T2 := Lib.hid (block_below T1.out hb); clear hb))
    | fail)
  clear HCu HPs T0 HB0 HB1 T1
  have G0 : Hid (GR w2 (w2.alloc (.cells #[.int .i64 ps, .int .i64 0, .int .i64 0, .int .i64 0, .int .i64 cu, .int .i64 0, .bool true] 27)) w2.heap.size ps 0 0 cu 0 true) := ⟨heap_alloc_new w2 _, Nat.le_refl _, below1 w2 _⟩
  obtain ⟨W, hW⟩ : ∃ W, W = w2.alloc (.cells #[.int .i64 ps, .int .i64 0, .int .i64 0, .int .i64 0, .int .i64 cu, .int .i64 0, .bool true] 27) := ⟨_, rfl⟩
  rw [← hW] at G0 ⊢
  clear hW
  have hgn : w.heap.size < w2.heap.size := lt_of_block T2.out
  generalize w2.heap.size = gb at *
  have hgne : ¬ gb = w.heap.size := by omega
  have hgne2 : ¬ w.heap.size = gb := by omega
  by_cases e4 : n % 4 = 0
  · have e4z := e4
    obtain rfl := HZ4.out e4
    rw [e4] at h4
    have h4' : (n : Int) % 4 = 0 := h4
    go_upto_region 7 with (fail)
    clear h4' h4
    by_cases e9 : n % 9 = 0
    · have e9z := e9
      obtain rfl := HZ3.out e9
      rw [e9] at h9
      have h9' : (n : Int) % 9 = 0 := h9
      go_upto_region 9 with (fail)
      clear h9' h9
      obtain ⟨⟨g0, g1, g2, g3, g4, g5, g6⟩, _⟩ := seven_of_block G0.out.blk
      have T5 := Lib.hid (block_below T2.out G0.out.bel)
      have HB5 := Lib.hid (bel0 HB2.out G0.out.bel)
      clear HP4 HP3 HZ4 HZ3
      go_wp2_with (first
        | (go_at_call 33; ((with_reducible refine (HG.out _).mono ?_); rintro e w5 ⟨rfl, hb⟩; have HB6 := Lib.hid (bel0 HB5.out hb); have T6 := Lib.hid (block_below T5.out hb); obtain ⟨⟨t0, t1, t2, t3, t4, t5, t6⟩, _⟩ := seven_of_block T6.out; clear hb))
        | fail)
      obtain ⟨⟨s0, s1, s2, s3, s4, s5, s6⟩, _⟩ := seven_of_block (seven_set T6.out (.int .i64 (ps : Int)) (.int .i64 gg) (.int .i64 0) (.int .i64 0) (.int .i64 (cu : Int)) (.int .i64 0) (.bool true))
      refine bodyPost_ret (v := .tuple #[.agg #[.int .i64 (ps : Int), .int .i64 gg, .int .i64 0, .int .i64 0, .int .i64 (cu : Int), .int .i64 0, .bool true], .int .i64 0]) ?_ rfl ⟨rfl, seven_bel HB6.out _ _ _ _ _ _ _⟩
      simp [results, Try.results18, go_sem, s0, s1, s2, s3, s4, s5, s6]
    · have e9z := e9
      have HC3 := Lib.hid (HP3.out e9)
      have e9i : ((n : Int) % 9 == 0) = false := by rw [h9, beq_eq_false_iff_ne]; omega
      have e9j : ¬ ((n : Int) % 9 = 0) := by omega
      clear h9
      go_upto_region 9 with (first
        | (go_at_call 46; ((with_reducible refine (HC3.out _).mono ?_); rintro e w4 ⟨rfl, hb⟩; have G2 := Lib.hid ((G0.out.below hb).set3 r3); obtain ⟨⟨y0, y1, y2, y3, y4, y5, y6⟩, yf⟩ := seven_of_block (G0.out.below hb).blk; clear hb))
        | fail)
      obtain ⟨W4, hW4⟩ : ∃ W, W = w4.setCell ⟨gb, 3, none⟩ (.int .i64 r3) := ⟨_, rfl⟩
      rw [← hW4] at G2 ⊢
      clear hW4 e9i e9j y0 y1 y2 y3 y4 y5 y6 yf
      obtain ⟨⟨g0, g1, g2, g3, g4, g5, g6⟩, _⟩ := seven_of_block G2.out.blk
      have T5 := Lib.hid (block_below T2.out G2.out.bel)
      have HB5 := Lib.hid (bel0 HB2.out G2.out.bel)
      clear HP4 HP3 HZ4 HZ3
      go_wp2_with (first
        | (go_at_call 33; ((with_reducible refine (HG.out _).mono ?_); rintro e w5 ⟨rfl, hb⟩; have HB6 := Lib.hid (bel0 HB5.out hb); have T6 := Lib.hid (block_below T5.out hb); obtain ⟨⟨t0, t1, t2, t3, t4, t5, t6⟩, _⟩ := seven_of_block T6.out; clear hb))
        | fail)
      obtain ⟨⟨s0, s1, s2, s3, s4, s5, s6⟩, _⟩ := seven_of_block (seven_set T6.out (.int .i64 (ps : Int)) (.int .i64 gg) (.int .i64 0) (.int .i64 r3) (.int .i64 (cu : Int)) (.int .i64 0) (.bool true))
      refine bodyPost_ret (v := .tuple #[.agg #[.int .i64 (ps : Int), .int .i64 gg, .int .i64 0, .int .i64 r3, .int .i64 (cu : Int), .int .i64 0, .bool true], .int .i64 0]) ?_ rfl ⟨rfl, seven_bel HB6.out _ _ _ _ _ _ _⟩
      simp [results, Try.results18, go_sem, s0, s1, s2, s3, s4, s5, s6]
  · have e4z := e4
    have HC4 := Lib.hid (HP4.out e4)
    have e4i : ((n : Int) % 4 == 0) = false := by rw [h4, beq_eq_false_iff_ne]; omega
    have e4j : ¬ ((n : Int) % 4 = 0) := by omega
    clear h4
    go_upto_region 7 with (first
      | (go_at_call 46; ((with_reducible refine (HC4.out _).mono ?_); rintro e w3 ⟨rfl, hb⟩; have G1 := Lib.hid ((G0.out.below hb).set2 r4); obtain ⟨⟨y0, y1, y2, y3, y4, y5, y6⟩, yf⟩ := seven_of_block (G0.out.below hb).blk; clear hb))
      | fail)
    obtain ⟨W3, hW3⟩ : ∃ W, W = w3.setCell ⟨gb, 2, none⟩ (.int .i64 r4) := ⟨_, rfl⟩
    rw [← hW3] at G1 ⊢
    clear hW3 e4i e4j y0 y1 y2 y3 y4 y5 y6 yf
    by_cases e9 : n % 9 = 0
    · have e9z := e9
      obtain rfl := HZ3.out e9
      rw [e9] at h9
      have h9' : (n : Int) % 9 = 0 := h9
      go_upto_region 9 with (fail)
      clear h9' h9
      obtain ⟨⟨g0, g1, g2, g3, g4, g5, g6⟩, _⟩ := seven_of_block G1.out.blk
      have T5 := Lib.hid (block_below T2.out G1.out.bel)
      have HB5 := Lib.hid (bel0 HB2.out G1.out.bel)
      clear HP4 HP3 HZ4 HZ3
      go_wp2_with (first
        | (go_at_call 33; ((with_reducible refine (HG.out _).mono ?_); rintro e w5 ⟨rfl, hb⟩; have HB6 := Lib.hid (bel0 HB5.out hb); have T6 := Lib.hid (block_below T5.out hb); obtain ⟨⟨t0, t1, t2, t3, t4, t5, t6⟩, _⟩ := seven_of_block T6.out; clear hb))
        | fail)
      obtain ⟨⟨s0, s1, s2, s3, s4, s5, s6⟩, _⟩ := seven_of_block (seven_set T6.out (.int .i64 (ps : Int)) (.int .i64 gg) (.int .i64 r4) (.int .i64 0) (.int .i64 (cu : Int)) (.int .i64 0) (.bool true))
      refine bodyPost_ret (v := .tuple #[.agg #[.int .i64 (ps : Int), .int .i64 gg, .int .i64 r4, .int .i64 0, .int .i64 (cu : Int), .int .i64 0, .bool true], .int .i64 0]) ?_ rfl ⟨rfl, seven_bel HB6.out _ _ _ _ _ _ _⟩
      simp [results, Try.results18, go_sem, s0, s1, s2, s3, s4, s5, s6]
    · have e9z := e9
      have HC3 := Lib.hid (HP3.out e9)
      have e9i : ((n : Int) % 9 == 0) = false := by rw [h9, beq_eq_false_iff_ne]; omega
      have e9j : ¬ ((n : Int) % 9 = 0) := by omega
      clear h9
      go_upto_region 9 with (first
        | (go_at_call 46; ((with_reducible refine (HC3.out _).mono ?_); rintro e w4 ⟨rfl, hb⟩; have G2 := Lib.hid ((G1.out.below hb).set3 r3); obtain ⟨⟨y0, y1, y2, y3, y4, y5, y6⟩, yf⟩ := seven_of_block (G1.out.below hb).blk; clear hb))
        | fail)
      obtain ⟨W4, hW4⟩ : ∃ W, W = w4.setCell ⟨gb, 3, none⟩ (.int .i64 r3) := ⟨_, rfl⟩
      rw [← hW4] at G2 ⊢
      clear hW4 e9i e9j y0 y1 y2 y3 y4 y5 y6 yf
      obtain ⟨⟨g0, g1, g2, g3, g4, g5, g6⟩, _⟩ := seven_of_block G2.out.blk
      have T5 := Lib.hid (block_below T2.out G2.out.bel)
      have HB5 := Lib.hid (bel0 HB2.out G2.out.bel)
      clear HP4 HP3 HZ4 HZ3
      go_wp2_with (first
        | (go_at_call 33; ((with_reducible refine (HG.out _).mono ?_); rintro e w5 ⟨rfl, hb⟩; have HB6 := Lib.hid (bel0 HB5.out hb); have T6 := Lib.hid (block_below T5.out hb); obtain ⟨⟨t0, t1, t2, t3, t4, t5, t6⟩, _⟩ := seven_of_block T6.out; clear hb))
        | fail)
      obtain ⟨⟨s0, s1, s2, s3, s4, s5, s6⟩, _⟩ := seven_of_block (seven_set T6.out (.int .i64 (ps : Int)) (.int .i64 gg) (.int .i64 r4) (.int .i64 r3) (.int .i64 (cu : Int)) (.int .i64 0) (.bool true))
      refine bodyPost_ret (v := .tuple #[.agg #[.int .i64 (ps : Int), .int .i64 gg, .int .i64 r4, .int .i64 r3, .int .i64 (cu : Int), .int .i64 0, .bool true], .int .i64 0]) ?_ rfl ⟨rfl, seven_bel HB6.out _ _ _ _ _ _ _⟩
      simp [results, Try.results18, go_sem, s0, s1, s2, s3, s4, s5, s6]
end Go.Proofs.Ytmikhkolbkdnpaa
namespace Go.Proofs.Ytmikhkolbkdnpaa
open Go.RowKit
set_option linter.unusedVariables false
set_option linter.unusedSimpArgs false

def ix1 (k : Nat) : Nat := if k = 1 then 1 else if k = 2 then 3 else psV k * phV k / 2
def cu1 (k : Nat) : Nat := if k = 1 then 1 else if k = 2 then 2 else if k = 4 then 3 else prV k / 2
def n21 (k : Nat) : Nat := if k ≤ 2 then 1 else 0
def n31 (k : Nat) : Nat := if k = 1 ∨ k = 3 then 1 else 0
def ir1 (k : Nat) : Nat := if k = 4 then 1 else 0
def ge1 (k : Nat) : Int := (12 + (ix1 k : Nat) - 3 * (n21 k : Nat) - 4 * (n31 k : Nat) - 6 * (cu1 k : Nat) : Int).tdiv 12
def d1Ok (k : Nat) : Bool := k == 0 || (ckxI 2 (k : Int) == 0 && idxN 2 k == psV k * phV k && (k < 3 || k == 4 || ((V2 k).map (wG k)).sum == k * prV k))
set_option maxRecDepth 100000 in
theorem d1_all : (List.range 25).all d1Ok = true := by decide +kernel
theorem d1_of {k : Nat} (k1 : 1 ≤ k) (k2 : k ≤ 24) : ckxI 2 (k : Int) = 0 ∧ idxN 2 k = psV k * phV k ∧ (3 ≤ k → k ≠ 4 → ((V2 k).map (wG k)).sum = k * prV k) := by
  have h := List.all_eq_true.1 d1_all k (List.mem_range.2 (by omega))
  unfold d1Ok at h
  simp only [Bool.or_eq_true, Bool.and_eq_true, beq_iff_eq, decide_eq_true_eq] at h
  rcases h with h | ⟨⟨h1, h2⟩, h3⟩
  · omega
  · exact ⟨h1, h2, fun a b => by rcases h3 with (h3 | h3) | h3; (omega); (omega); exact h3⟩
theorem sm1 : mO (fnz (olS 2 1)) (olS 2 1).length = 1 ∧ n2Z (fnz (olS 2 1)) (olS 2 1).length = 1 ∧ n3Z (fnz (olS 2 1)) (fnz (olT 2 1)) (olS 2 1).length = 1 ∧ cuZ (fnz (olS 2 1)) (fnz (olT 2 1)) (olS 2 1).length = 1 := by decide +kernel
theorem sm2 : mO (fnz (olS 2 2)) (olS 2 2).length = 3 ∧ n2Z (fnz (olS 2 2)) (olS 2 2).length = 1 ∧ n3Z (fnz (olS 2 2)) (fnz (olT 2 2)) (olS 2 2).length = 0 ∧ cuZ (fnz (olS 2 2)) (fnz (olT 2 2)) (olS 2 2).length = 2 := by decide +kernel
theorem sm3 : n3Z (fnz (olS 2 3)) (fnz (olT 2 3)) (olS 2 3).length = 1 := by decide +kernel
theorem sm4 : cuZ (fnz (olS 2 4)) (fnz (olT 2 4)) (olS 2 4).length = 3 := by decide +kernel
theorem g1_num {k : Nat} (k1 : 1 ≤ k) (k2 : k ≤ 24) : mO (fnz (olS 2 (k : Int))) (olS 2 (k : Int)).length = ix1 k ∧ n2Z (fnz (olS 2 (k : Int))) (olS 2 (k : Int)).length = n21 k ∧ n3Z (fnz (olS 2 (k : Int))) (fnz (olT 2 (k : Int))) (olS 2 (k : Int)).length = n31 k ∧ cuZ (fnz (olS 2 (k : Int))) (fnz (olT 2 (k : Int))) (olS 2 (k : Int)).length = cu1 k := by
  obtain ⟨hc, hN, hW⟩ := d1_of k1 k2
  by_cases e1 : k = 1
  · subst e1; exact sm1
  by_cases e2 : k = 2
  · subst e2; exact sm2
  have k3 : 3 ≤ k := by omega
  have hl := g1_len hc
  rw [Int.toNat_natCast, hN] at hl
  have hmO := g1_mO hc k3
  have hno : n2Z (fnz (olS 2 (k : Int))) (olS 2 (k : Int)).length = 0 := (pact_of (ol_act hc)).no2 (g1_zne hc k3 0 (by have := (ol_act hc).pos; omega))
  unfold ix1 n21 n31 cu1
  rw [if_neg e1, if_neg e2, if_neg (by omega), if_neg e1, if_neg e2]
  refine ⟨by omega, hno, ?_, ?_⟩
  · by_cases e3 : k = 3
    · subst e3; exact sm3
    · rw [if_neg (by omega)]; exact g1_n3 hc (by omega)
  · by_cases e4 : k = 4
    · subst e4; exact sm4
    · rw [if_neg e4]
      have h1 := g1_cu k1 hc k3 e4
      rw [hW k3 e4, Nat.mul_comm 2 k, Nat.mul_assoc] at h1
      have := Nat.eq_of_mul_eq_mul_left (by omega) h1
      omega
theorem g1_sgx {k : Nat} (k1 : 1 ≤ k) (k2 : k ≤ 24) : chkA (olS 2 (k : Int)) (olT 2 (k : Int)) = 0 ∧ sgX (olS 2 (k : Int)) (olT 2 (k : Int)) = .agg #[.int .i64 (ix1 k : Nat), .int .i64 (ge1 k), .int .i64 (n21 k : Nat), .int .i64 (n31 k : Nat), .int .i64 (cu1 k : Nat), .int .i64 (ir1 k : Nat), .bool (decide (k ≤ 2))] := by
  have hc := (d1_of k1 k2).1
  have ha := ol_act hc
  have h0 := chkA_ok ha
  refine ⟨h0, ?_⟩
  obtain ⟨a1, a2, a3, a4⟩ := g1_num k1 k2
  have hcl := clP_ok h0
  have hcu : (clP (olS 2 (k : Int)) (olT 2 (k : Int))).length = cuZ (fnz (olS 2 (k : Int))) (fnz (olT 2 (k : Int))) (olS 2 (k : Int)).length := by rw [hcl]; rfl
  have hir : irL (rgF (olS 2 (k : Int)) (olT 2 (k : Int))) (clP (olS 2 (k : Int)) (olT 2 (k : Int))) = ir1 k := by
    have h := g1_irr hc (by omega)
    have e : irL (rgF (olS 2 (k : Int)) (olT 2 (k : Int))) (clP (olS 2 (k : Int)) (olT 2 (k : Int))) = irN (rgF (olS 2 (k : Int)) (olT 2 (k : Int))) (clP (olS 2 (k : Int)) (olT 2 (k : Int))) := rfl
    rw [e, h]
    unfold ir1
    by_cases e4 : k = 4
    · rw [if_pos e4, if_pos (by omega)]
    · rw [if_neg e4, if_neg (by omega)]
  have hm : mnB (olS 2 (k : Int)) = decide (k ≤ 2) := by
    rw [g1_mn hc]
    refine decide_eq_decide.2 ⟨fun h => by have := Int.le_of_dvd (by omega) h; omega, fun h => ?_⟩
    have : k = 1 ∨ k = 2 := by omega
    rcases this with rfl | rfl
    · exact ⟨2, rfl⟩
    · exact ⟨1, rfl⟩
  rw [sgX_ok h0]
  unfold sgA gnZ ge1
  rw [hcu, hir, hm, a1, a2, a3, a4]
end Go.Proofs.Ytmikhkolbkdnpaa
namespace Go.Proofs.Ytmikhkolbkdnpaa
open Go.RowKit
set_option linter.unusedVariables false
set_option linter.unusedSimpArgs false

theorem GR.set4 {w1 wr : World} {gb : Nat} {ix n2 n3 cu ir : Int} {mi : Bool} (h : GR w1 wr gb ix n2 n3 cu ir mi) (y : Int) : GR w1 (wr.setCell ⟨gb, 4, none⟩ (.int .i64 y)) gb ix n2 n3 y ir mi := ⟨heap_setCell_same _ _ 4 #[.int .i64 ix, .int .i64 0, .int .i64 n2, .int .i64 n3, .int .i64 cu, .int .i64 ir, .bool mi] _ (.int .i64 y) h.blk, h.ge, h.bel.setCell h.ge _⟩
def prOk (n : Nat) : Bool := decide (prV n ≤ 100000)
set_option maxRecDepth 100000 in
theorem pr_all : (List.range 121).all prOk = true := by decide +kernel
theorem prV_le {n : Nat} (n2 : n ≤ 120) : prV n ≤ 100000 := of_decide_eq_true (List.all_eq_true.1 pr_all n (List.mem_range.2 (by omega)))
/-- What Formula1 answers at a level. -/
def F1V (k : Nat) : Value := .agg #[.int .i64 (ix1 k : Nat), .int .i64 (ge1 k), .int .i64 (n21 k : Nat), .int .i64 (n31 k : Nat), .int .i64 (cu1 k : Nat), .int .i64 (ir1 k : Nat), .bool (decide (k ≤ 2))]
theorem F1V_1 : F1V 1 = .agg #[.int .i64 1, .int .i64 0, .int .i64 1, .int .i64 1, .int .i64 1, .int .i64 0, .bool true] := rfl
theorem F1V_2 : F1V 2 = .agg #[.int .i64 3, .int .i64 0, .int .i64 1, .int .i64 0, .int .i64 2, .int .i64 0, .bool true] := rfl
theorem F1V_3 : F1V 3 = .agg #[.int .i64 4, .int .i64 0, .int .i64 0, .int .i64 1, .int .i64 2, .int .i64 0, .bool false] := by unfold F1V ge1; rw [show ix1 3 = 4 by decide +kernel, show cu1 3 = 2 by decide +kernel]; rfl
theorem F1V_4 : F1V 4 = .agg #[.int .i64 6, .int .i64 0, .int .i64 0, .int .i64 0, .int .i64 3, .int .i64 1, .bool false] := by unfold F1V ge1; rw [show ix1 4 = 6 by decide +kernel]; rfl
theorem F1V_5 {k : Nat} (k5 : 5 ≤ k) : F1V k = .agg #[.int .i64 ((psV k * phV k : Nat) / 2 : Int), .int .i64 ((12 + ((psV k * phV k : Nat) / 2 : Int) - 3 * 0 - 4 * 0 - 6 * ((prV k : Nat) / 2 : Int)).tdiv 12), .int .i64 0, .int .i64 0, .int .i64 ((prV k : Nat) / 2 : Int), .int .i64 0, .bool false] := by
  have e1 : ((ix1 k : Nat) : Int) = ((psV k * phV k : Nat) : Int) / 2 := by unfold ix1; rw [if_neg (by omega), if_neg (by omega)]; omega
  have e2 : ((cu1 k : Nat) : Int) = ((prV k : Nat) : Int) / 2 := by unfold cu1; rw [if_neg (by omega), if_neg (by omega), if_neg (by omega)]; omega
  have e3 : n21 k = 0 := if_neg (by omega)
  have e4 : n31 k = 0 := if_neg (by omega)
  have e5 : ir1 k = 0 := if_neg (by omega)
  have e6 : decide (k ≤ 2) = false := decide_eq_false (by omega)
  unfold F1V ge1
  rw [e1, e2, e3, e4, e5, e6]
  rfl
set_option maxHeartbeats 3200000 in
set_option maxRecDepth 1000000 in
theorem formula1_s1 (w : World) :
    Calls Try.prog 22 #[.int .i64 1] w fun e w' => e = .returned (.tuple #[F1V 1, .int .i64 0]) ∧ Below w.heap.size w w' := by
  rw [F1V_1]
  have HF : Hid (∀ W, Calls Try.prog 17 #[.int .i64 1] W fun e w' => e = .returned (.tuple #[.agg #[.int .i64 1, .int .i64 0, .int .i64 1, .int .i64 1, .int .i64 1, .int .i64 0, .bool true], .int .i64 0]) ∧ Below W.heap.size W w') := fun W => by
    have := formula0_any 1 W (by omega) (by omega)
    rwa [show psV 1 = 1 by decide +kernel, show cuV 1 = 1 by decide +kernel, show rtV 4 4 1 = 1 by decide +kernel, show rtV 3 9 1 = 1 by decide +kernel, show g0V 1 = 0 by decide +kernel] at this
  have T0 : Hid ((w.alloc (.cells #[.int .i64 0, .int .i64 0, .int .i64 0, .int .i64 0, .int .i64 0, .int .i64 0, .bool false] 27)).heap[w.heap.size]? = some (.cells #[.int .i64 0, .int .i64 0, .int .i64 0, .int .i64 0, .int .i64 0, .int .i64 0, .bool false] 27 (0, 0))) := heap_alloc_new w _
  have HB0 : Hid (Below w.heap.size w (w.alloc (.cells #[.int .i64 0, .int .i64 0, .int .i64 0, .int .i64 0, .int .i64 0, .int .i64 0, .bool false] 27))) := below1 w _
  go_enter Try.func22, Try.ntmps22
  go_wp2_with (first
    | (go_at_call 17; ((with_reducible refine (HF.out _).mono ?_); rintro e w5 ⟨rfl, hb⟩; have HB5 := Lib.hid (bel0 HB0.out hb); have T5 := Lib.hid (block_below T0.out hb); obtain ⟨⟨t0, t1, t2, t3, t4, t5, t6⟩, _⟩ := seven_of_block T5.out; clear hb))
    | fail)
  obtain ⟨⟨s0, s1, s2, s3, s4, s5, s6⟩, _⟩ := seven_of_block (seven_set T5.out (.int .i64 1) (.int .i64 0) (.int .i64 1) (.int .i64 1) (.int .i64 1) (.int .i64 0) (.bool true))
  refine bodyPost_ret (v := .tuple #[.agg #[.int .i64 1, .int .i64 0, .int .i64 1, .int .i64 1, .int .i64 1, .int .i64 0, .bool true], .int .i64 0]) ?_ rfl ⟨rfl, seven_bel HB5.out _ _ _ _ _ _ _⟩
  simp [results, Try.results22, go_sem, s0, s1, s2, s3, s4, s5, s6]
set_option maxHeartbeats 3200000 in
set_option maxRecDepth 1000000 in
theorem formula1_s2 (w : World) :
    Calls Try.prog 22 #[.int .i64 2] w fun e w' => e = .returned (.tuple #[F1V 2, .int .i64 0]) ∧ Below w.heap.size w w' := by
  rw [F1V_2]
  have HF : Hid (∀ W, Calls Try.prog 17 #[.int .i64 2] W fun e w' => e = .returned (.tuple #[.agg #[.int .i64 3, .int .i64 0, .int .i64 1, .int .i64 0, .int .i64 2, .int .i64 0, .bool true], .int .i64 0]) ∧ Below W.heap.size W w') := fun W => by
    have := formula0_any 2 W (by omega) (by omega)
    rwa [show psV 2 = 3 by decide +kernel, show cuV 2 = 2 by decide +kernel, show rtV 4 4 2 = 1 by decide +kernel, show rtV 3 9 2 = 0 by decide +kernel, show g0V 2 = 0 by decide +kernel] at this
  have T0 : Hid ((w.alloc (.cells #[.int .i64 0, .int .i64 0, .int .i64 0, .int .i64 0, .int .i64 0, .int .i64 0, .bool false] 27)).heap[w.heap.size]? = some (.cells #[.int .i64 0, .int .i64 0, .int .i64 0, .int .i64 0, .int .i64 0, .int .i64 0, .bool false] 27 (0, 0))) := heap_alloc_new w _
  have HB0 : Hid (Below w.heap.size w (w.alloc (.cells #[.int .i64 0, .int .i64 0, .int .i64 0, .int .i64 0, .int .i64 0, .int .i64 0, .bool false] 27))) := below1 w _
  go_enter Try.func22, Try.ntmps22
  go_wp2_with (first
    | (go_at_call 17; ((with_reducible refine (HF.out _).mono ?_); rintro e w5 ⟨rfl, hb⟩; have HB5 := Lib.hid (bel0 HB0.out hb); have T5 := Lib.hid (block_below T0.out hb); obtain ⟨⟨t0, t1, t2, t3, t4, t5, t6⟩, _⟩ := seven_of_block T5.out; clear hb))
    | fail)
  obtain ⟨⟨s0, s1, s2, s3, s4, s5, s6⟩, _⟩ := seven_of_block (seven_set T5.out (.int .i64 3) (.int .i64 0) (.int .i64 1) (.int .i64 0) (.int .i64 2) (.int .i64 0) (.bool true))
  refine bodyPost_ret (v := .tuple #[.agg #[.int .i64 3, .int .i64 0, .int .i64 1, .int .i64 0, .int .i64 2, .int .i64 0, .bool true], .int .i64 0]) ?_ rfl ⟨rfl, seven_bel HB5.out _ _ _ _ _ _ _⟩
  simp [results, Try.results22, go_sem, s0, s1, s2, s3, s4, s5, s6]
set_option maxHeartbeats 3200000 in
set_option maxRecDepth 1000000 in
theorem formula1_3 (w : World) :
    Calls Try.prog 22 #[.int .i64 3] w fun e w' => e = .returned (.tuple #[F1V 3, .int .i64 0]) ∧ Below w.heap.size w w' := by
  rw [F1V_3]
  have HPs : Hid (∀ W, Calls Try.prog 42 #[.int .i64 3] W fun e w' => e = .returned (.tuple #[.int .i64 4, .int .i64 0]) ∧ Below W.heap.size W w') := fun W => by
    have := psiA_any 3 W (by omega) (by omega)
    rwa [show psV 3 = 4 by decide +kernel] at this
  have HPh : Hid (∀ W, Calls Try.prog 49 #[.int .i64 3] W fun e w' => e = .returned (.tuple #[.int .i64 2, .int .i64 0]) ∧ Below W.heap.size W w') := fun W => by
    have := phiA_any 3 W (by omega) (by omega)
    rwa [show phV 3 = 2 by decide +kernel] at this
  have HPr : Hid (∀ W, Calls Try.prog 50 #[.int .i64 3] W fun e w' => e = .returned (.int .i64 4) ∧ Below W.heap.size W w') := fun W => by
    have := pairs_any 3 W (by omega) (by omega)
    rwa [show prV 3 = 4 by decide +kernel] at this
  have HG : Hid (∀ W, Calls Try.prog 28 #[.agg #[.int .i64 4, .int .i64 0, .int .i64 0, .int .i64 1, .int .i64 2, .int .i64 0, .bool false]] W fun e w' => e = .returned (.agg #[.int .i64 4, .int .i64 0, .int .i64 0, .int .i64 1, .int .i64 2, .int .i64 0, .bool false]) ∧ Below W.heap.size W w') := fun W =>
    genus_any 4 0 0 1 2 0 false W (by omega) (by omega) (by omega) (by omega)
  have T0 : Hid ((w.alloc (.cells #[.int .i64 0, .int .i64 0, .int .i64 0, .int .i64 0, .int .i64 0, .int .i64 0, .bool false] 27)).heap[w.heap.size]? = some (.cells #[.int .i64 0, .int .i64 0, .int .i64 0, .int .i64 0, .int .i64 0, .int .i64 0, .bool false] 27 (0, 0))) := heap_alloc_new w _
  have HB0 : Hid (Below w.heap.size w (w.alloc (.cells #[.int .i64 0, .int .i64 0, .int .i64 0, .int .i64 0, .int .i64 0, .int .i64 0, .bool false] 27))) := below1 w _
  go_enter Try.func22, Try.ntmps22
  go_upto_region 8 with (first
    | (go_at_call 42; ((with_reducible refine (HPs.out _).mono ?_); rintro e w2 ⟨rfl, hb⟩; have HB2 := Lib.hid (bel0 HB0.out hb); have T2 := Lib.hid (block_below T0.out hb); clear hb))
    | (go_at_call 49; ((with_reducible refine (HPh.out _).mono ?_); rintro e w3 ⟨rfl, hb⟩; have HB3 := Lib.hid (bel0 HB2.out hb); have T3 := Lib.hid (block_below T2.out hb); clear hb))
    | (go_at_call 50; ((with_reducible refine (HPr.out _).mono ?_); rintro e w4 ⟨rfl, hb⟩; have HB4 := Lib.hid (bel0 HB3.out hb); have T4 := Lib.hid (block_below T3.out hb); clear hb))
    | fail)
  clear HPs HPh HPr T0 HB0 T2 T3 HB2 HB3
  have G0 : Hid (GR w4 (w4.alloc (.cells #[.int .i64 4, .int .i64 0, .int .i64 0, .int .i64 0, .int .i64 2, .int .i64 0, .bool false] 27)) w4.heap.size 4 0 0 2 0 false) := ⟨heap_alloc_new w4 _, Nat.le_refl _, below1 w4 _⟩
  obtain ⟨W, hW⟩ : ∃ W, W = w4.alloc (.cells #[.int .i64 4, .int .i64 0, .int .i64 0, .int .i64 0, .int .i64 2, .int .i64 0, .bool false] 27) := ⟨_, rfl⟩
  rw [← hW] at G0 ⊢
  clear hW
  have hgn : w.heap.size < w4.heap.size := lt_of_block T4.out
  generalize w4.heap.size = gb at *
  have hgne : ¬ gb = w.heap.size := by omega
  have hgne2 : ¬ w.heap.size = gb := by omega
  obtain ⟨⟨y0, y1, y2, y3, y4, y5, y6⟩, yf⟩ := seven_of_block G0.out.blk
  go_upto_region 13 with (fail)
  clear y0 y1 y2 y3 y4 y5 y6 yf
  have G1 := Lib.hid (G0.out.set3 1)
  obtain ⟨W3, hW3⟩ : ∃ W3, W3 = W.setCell ⟨gb, 3, none⟩ (.int .i64 1) := ⟨_, rfl⟩
  rw [← hW3] at G1 ⊢
  clear hW3
  obtain ⟨⟨g0, g1, g2, g3, g4, g5, g6⟩, _⟩ := seven_of_block G1.out.blk
  have T5 := Lib.hid (block_below T4.out G1.out.bel)
  have HB5 := Lib.hid (bel0 HB4.out G1.out.bel)
  go_wp2_with (first
    | (go_at_call 28; ((with_reducible refine (HG.out _).mono ?_); rintro e w5 ⟨rfl, hb⟩; have HB6 := Lib.hid (bel0 HB5.out hb); have T6 := Lib.hid (block_below T5.out hb); obtain ⟨⟨t0, t1, t2, t3, t4, t5, t6⟩, _⟩ := seven_of_block T6.out; clear hb))
    | fail)
  obtain ⟨⟨s0, s1, s2, s3, s4, s5, s6⟩, _⟩ := seven_of_block (seven_set T6.out (.int .i64 4) (.int .i64 0) (.int .i64 0) (.int .i64 1) (.int .i64 2) (.int .i64 0) (.bool false))
  refine bodyPost_ret (v := .tuple #[.agg #[.int .i64 4, .int .i64 0, .int .i64 0, .int .i64 1, .int .i64 2, .int .i64 0, .bool false], .int .i64 0]) ?_ rfl ⟨rfl, seven_bel HB6.out _ _ _ _ _ _ _⟩
  simp [results, Try.results22, go_sem, s0, s1, s2, s3, s4, s5, s6]
set_option maxHeartbeats 3200000 in
set_option maxRecDepth 1000000 in
theorem formula1_4 (w : World) :
    Calls Try.prog 22 #[.int .i64 4] w fun e w' => e = .returned (.tuple #[F1V 4, .int .i64 0]) ∧ Below w.heap.size w w' := by
  rw [F1V_4]
  have HPs : Hid (∀ W, Calls Try.prog 42 #[.int .i64 4] W fun e w' => e = .returned (.tuple #[.int .i64 6, .int .i64 0]) ∧ Below W.heap.size W w') := fun W => by
    have := psiA_any 4 W (by omega) (by omega)
    rwa [show psV 4 = 6 by decide +kernel] at this
  have HPh : Hid (∀ W, Calls Try.prog 49 #[.int .i64 4] W fun e w' => e = .returned (.tuple #[.int .i64 2, .int .i64 0]) ∧ Below W.heap.size W w') := fun W => by
    have := phiA_any 4 W (by omega) (by omega)
    rwa [show phV 4 = 2 by decide +kernel] at this
  have HPr : Hid (∀ W, Calls Try.prog 50 #[.int .i64 4] W fun e w' => e = .returned (.int .i64 5) ∧ Below W.heap.size W w') := fun W => by
    have := pairs_any 4 W (by omega) (by omega)
    rwa [show prV 4 = 5 by decide +kernel] at this
  have HG : Hid (∀ W, Calls Try.prog 28 #[.agg #[.int .i64 6, .int .i64 0, .int .i64 0, .int .i64 0, .int .i64 3, .int .i64 1, .bool false]] W fun e w' => e = .returned (.agg #[.int .i64 6, .int .i64 0, .int .i64 0, .int .i64 0, .int .i64 3, .int .i64 1, .bool false]) ∧ Below W.heap.size W w') := fun W =>
    genus_any 6 0 0 0 3 1 false W (by omega) (by omega) (by omega) (by omega)
  have T0 : Hid ((w.alloc (.cells #[.int .i64 0, .int .i64 0, .int .i64 0, .int .i64 0, .int .i64 0, .int .i64 0, .bool false] 27)).heap[w.heap.size]? = some (.cells #[.int .i64 0, .int .i64 0, .int .i64 0, .int .i64 0, .int .i64 0, .int .i64 0, .bool false] 27 (0, 0))) := heap_alloc_new w _
  have HB0 : Hid (Below w.heap.size w (w.alloc (.cells #[.int .i64 0, .int .i64 0, .int .i64 0, .int .i64 0, .int .i64 0, .int .i64 0, .bool false] 27))) := below1 w _
  go_enter Try.func22, Try.ntmps22
  go_upto_region 8 with (first
    | (go_at_call 42; ((with_reducible refine (HPs.out _).mono ?_); rintro e w2 ⟨rfl, hb⟩; have HB2 := Lib.hid (bel0 HB0.out hb); have T2 := Lib.hid (block_below T0.out hb); clear hb))
    | (go_at_call 49; ((with_reducible refine (HPh.out _).mono ?_); rintro e w3 ⟨rfl, hb⟩; have HB3 := Lib.hid (bel0 HB2.out hb); have T3 := Lib.hid (block_below T2.out hb); clear hb))
    | (go_at_call 50; ((with_reducible refine (HPr.out _).mono ?_); rintro e w4 ⟨rfl, hb⟩; have HB4 := Lib.hid (bel0 HB3.out hb); have T4 := Lib.hid (block_below T3.out hb); clear hb))
    | fail)
  clear HPs HPh HPr T0 HB0 T2 T3 HB2 HB3
  have G0 : Hid (GR w4 (w4.alloc (.cells #[.int .i64 6, .int .i64 0, .int .i64 0, .int .i64 0, .int .i64 2, .int .i64 0, .bool false] 27)) w4.heap.size 6 0 0 2 0 false) := ⟨heap_alloc_new w4 _, Nat.le_refl _, below1 w4 _⟩
  obtain ⟨W, hW⟩ : ∃ W, W = w4.alloc (.cells #[.int .i64 6, .int .i64 0, .int .i64 0, .int .i64 0, .int .i64 2, .int .i64 0, .bool false] 27) := ⟨_, rfl⟩
  rw [← hW] at G0 ⊢
  clear hW
  have hgn : w.heap.size < w4.heap.size := lt_of_block T4.out
  generalize w4.heap.size = gb at *
  have hgne : ¬ gb = w.heap.size := by omega
  have hgne2 : ¬ w.heap.size = gb := by omega
  obtain ⟨⟨y0, y1, y2, y3, y4, y5, y6⟩, yf⟩ := seven_of_block G0.out.blk
  obtain ⟨⟨u0, u1, u2, u3, u4, u5, u6⟩, uf⟩ := seven_of_block (G0.out.set4 3).blk
  go_upto_region 13 with (fail)
  clear y0 y1 y2 y3 y4 y5 y6 yf u0 u1 u2 u3 u4 u5 u6 uf
  have G1 := Lib.hid ((G0.out.set4 3).set5 1)
  obtain ⟨W3, hW3⟩ : ∃ W3, W3 = (W.setCell ⟨gb, 4, none⟩ (.int .i64 3)).setCell ⟨gb, 5, none⟩ (.int .i64 1) := ⟨_, rfl⟩
  rw [← hW3] at G1 ⊢
  clear hW3
  obtain ⟨⟨g0, g1, g2, g3, g4, g5, g6⟩, _⟩ := seven_of_block G1.out.blk
  have T5 := Lib.hid (block_below T4.out G1.out.bel)
  have HB5 := Lib.hid (bel0 HB4.out G1.out.bel)
  go_wp2_with (first
    | (go_at_call 28; ((with_reducible refine (HG.out _).mono ?_); rintro e w5 ⟨rfl, hb⟩; have HB6 := Lib.hid (bel0 HB5.out hb); have T6 := Lib.hid (block_below T5.out hb); obtain ⟨⟨t0, t1, t2, t3, t4, t5, t6⟩, _⟩ := seven_of_block T6.out; clear hb))
    | fail)
  obtain ⟨⟨s0, s1, s2, s3, s4, s5, s6⟩, _⟩ := seven_of_block (seven_set T6.out (.int .i64 6) (.int .i64 0) (.int .i64 0) (.int .i64 0) (.int .i64 3) (.int .i64 1) (.bool false))
  refine bodyPost_ret (v := .tuple #[.agg #[.int .i64 6, .int .i64 0, .int .i64 0, .int .i64 0, .int .i64 3, .int .i64 1, .bool false], .int .i64 0]) ?_ rfl ⟨rfl, seven_bel HB6.out _ _ _ _ _ _ _⟩
  simp [results, Try.results22, go_sem, s0, s1, s2, s3, s4, s5, s6]
set_option maxHeartbeats 3200000 in
set_option maxRecDepth 1000000 in
theorem formula1_5 (k : Nat) (w : World) (k5 : 5 ≤ k) (k2 : (k : Int) ≤ 120) :
    Calls Try.prog 22 #[.int .i64 (k : Int)] w fun e w' => e = .returned (.tuple #[F1V k, .int .i64 0]) ∧ Below w.heap.size w w' := by
  rw [F1V_5 k5]
  have HPs := Lib.hid (fun W => psiA_any k W (by omega) k2)
  have HPh := Lib.hid (fun W => phiA_any k W (by omega) k2)
  have HPr := Lib.hid (fun W => pairs_any k W (by omega) k2)
  have b1 := psV_le (n := k) (by omega) (by omega)
  have b2 := phV_le k
  have b3 := prV_le (n := k) (by omega)
  have b4 : psV k * phV k ≤ 1000 * 120 := Nat.mul_le_mul b1 (by omega)
  have hm : ((psV k : Nat) : Int) * ((phV k : Nat) : Int) = ((psV k * phV k : Nat) : Int) := by simp
  generalize psV k * phV k = m at *
  generalize psV k = ps at *
  generalize phV k = ph at *
  generalize prV k = pr at *
  obtain ⟨I, hI⟩ : ∃ I, I = (m : Int) / 2 := ⟨_, rfl⟩
  obtain ⟨C, hC⟩ : ∃ C, C = (pr : Int) / 2 := ⟨_, rfl⟩
  rw [← hI, ← hC]
  have HG : Hid (∀ W, Calls Try.prog 28 #[.agg #[.int .i64 I, .int .i64 0, .int .i64 0, .int .i64 0, .int .i64 C, .int .i64 0, .bool false]] W fun e w' => e = .returned (.agg #[.int .i64 I, .int .i64 ((12 + I - 3 * 0 - 4 * 0 - 6 * C).tdiv 12), .int .i64 0, .int .i64 0, .int .i64 C, .int .i64 0, .bool false]) ∧ Below W.heap.size W w') := fun W =>
    genus_any I 0 0 0 C 0 false W (by omega) (by omega) (by omega) (by omega)
  generalize (12 + I - 3 * 0 - 4 * 0 - 6 * C).tdiv 12 = gg at *
  have hI' := hI.symm
  have hC' := hC.symm
  have k5i : 5 ≤ (k : Int) := by omega
  have hmi : (m : Int) ≤ 120000 := by omega
  have hpri : (pr : Int) ≤ 100000 := by omega
  have hpsi : (ps : Int) ≤ 1000 := by omega
  have hphi : (ph : Int) ≤ 120 := by omega
  have ne3 : ((k : Int) == 3) = false := by rw [beq_eq_false_iff_ne]; omega
  have ne4 : ((k : Int) == 4) = false := by rw [beq_eq_false_iff_ne]; omega
  clear hI hC b1 b2 b3 b4
  have T0 : Hid ((w.alloc (.cells #[.int .i64 0, .int .i64 0, .int .i64 0, .int .i64 0, .int .i64 0, .int .i64 0, .bool false] 27)).heap[w.heap.size]? = some (.cells #[.int .i64 0, .int .i64 0, .int .i64 0, .int .i64 0, .int .i64 0, .int .i64 0, .bool false] 27 (0, 0))) := heap_alloc_new w _
  have HB0 : Hid (Below w.heap.size w (w.alloc (.cells #[.int .i64 0, .int .i64 0, .int .i64 0, .int .i64 0, .int .i64 0, .int .i64 0, .bool false] 27))) := below1 w _
  go_enter Try.func22, Try.ntmps22
  go_upto_region 8 with (first
    | (go_at_call 42; ((with_reducible refine (HPs.out _).mono ?_); rintro e w2 ⟨rfl, hb⟩; have HB2 := Lib.hid (bel0 HB0.out hb); have T2 := Lib.hid (block_below T0.out hb); clear hb))
    | (go_at_call 49; ((with_reducible refine (HPh.out _).mono ?_); rintro e w3 ⟨rfl, hb⟩; have HB3 := Lib.hid (bel0 HB2.out hb); have T3 := Lib.hid (block_below T2.out hb); clear hb))
    | (go_at_call 50; ((with_reducible refine (HPr.out _).mono ?_); rintro e w4 ⟨rfl, hb⟩; have HB4 := Lib.hid (bel0 HB3.out hb); have T4 := Lib.hid (block_below T3.out hb); clear hb))
    | fail)
  clear HPs HPh HPr T0 HB0 T2 T3 HB2 HB3
  have G0 : Hid (GR w4 (w4.alloc (.cells #[.int .i64 I, .int .i64 0, .int .i64 0, .int .i64 0, .int .i64 C, .int .i64 0, .bool false] 27)) w4.heap.size I 0 0 C 0 false) := ⟨heap_alloc_new w4 _, Nat.le_refl _, below1 w4 _⟩
  obtain ⟨W, hW⟩ : ∃ W, W = w4.alloc (.cells #[.int .i64 I, .int .i64 0, .int .i64 0, .int .i64 0, .int .i64 C, .int .i64 0, .bool false] 27) := ⟨_, rfl⟩
  rw [← hW] at G0 ⊢
  clear hW
  have hgn : w.heap.size < w4.heap.size := lt_of_block T4.out
  generalize w4.heap.size = gb at *
  have hgne : ¬ gb = w.heap.size := by omega
  have hgne2 : ¬ w.heap.size = gb := by omega
  obtain ⟨⟨g0, g1, g2, g3, g4, g5, g6⟩, _⟩ := seven_of_block G0.out.blk
  have T5 := Lib.hid (block_below T4.out G0.out.bel)
  have HB5 := Lib.hid (bel0 HB4.out G0.out.bel)
  go_wp2_with (first
    | (go_at_call 28; ((with_reducible refine (HG.out _).mono ?_); rintro e w5 ⟨rfl, hb⟩; have HB6 := Lib.hid (bel0 HB5.out hb); have T6 := Lib.hid (block_below T5.out hb); obtain ⟨⟨t0, t1, t2, t3, t4, t5, t6⟩, _⟩ := seven_of_block T6.out; clear hb))
    | fail)
  obtain ⟨⟨s0, s1, s2, s3, s4, s5, s6⟩, _⟩ := seven_of_block (seven_set T6.out (.int .i64 I) (.int .i64 gg) (.int .i64 0) (.int .i64 0) (.int .i64 C) (.int .i64 0) (.bool false))
  refine bodyPost_ret (v := .tuple #[.agg #[.int .i64 I, .int .i64 gg, .int .i64 0, .int .i64 0, .int .i64 C, .int .i64 0, .bool false], .int .i64 0]) ?_ rfl ⟨rfl, seven_bel HB6.out _ _ _ _ _ _ _⟩
  simp [results, Try.results22, go_sem, s0, s1, s2, s3, s4, s5, s6]
theorem formula1_any (k : Nat) (w : World) (k1 : 1 ≤ k) (k2 : (k : Int) ≤ 120) :
    Calls Try.prog 22 #[.int .i64 (k : Int)] w fun e w' => e = .returned (.tuple #[F1V k, .int .i64 0]) ∧ Below w.heap.size w w' := by
  by_cases h : 5 ≤ k
  · exact formula1_5 k w h k2
  · have : k = 1 ∨ k = 2 ∨ k = 3 ∨ k = 4 := by omega
    rcases this with rfl | rfl | rfl | rfl
    · exact formula1_s1 w
    · exact formula1_s2 w
    · exact formula1_3 w
    · exact formula1_4 w
set_option maxHeartbeats 3200000 in
set_option maxRecDepth 1000000 in
theorem formula1_bad (n : Int) (w : World) (hn : n < 1 ∨ 120 < n) :
    Calls Try.prog 22 #[.int .i64 n] w fun e w' => e = .returned (.tuple #[.agg #[.int .i64 0, .int .i64 0, .int .i64 0, .int .i64 0, .int .i64 0, .int .i64 0, .bool false], .int .i64 2]) ∧ Below w.heap.size w w' := by
  have T0 : Hid ((w.alloc (.cells #[.int .i64 0, .int .i64 0, .int .i64 0, .int .i64 0, .int .i64 0, .int .i64 0, .bool false] 27)).heap[w.heap.size]? = some (.cells #[.int .i64 0, .int .i64 0, .int .i64 0, .int .i64 0, .int .i64 0, .int .i64 0, .bool false] 27 (0, 0))) := heap_alloc_new w _
  have HB0 : Hid (Below w.heap.size w (w.alloc (.cells #[.int .i64 0, .int .i64 0, .int .i64 0, .int .i64 0, .int .i64 0, .int .i64 0, .bool false] 27))) := below1 w _
  have hcs : n < 1 ∨ ¬ n < 1 ∧ 120 < n := by omega
  clear hn
  go_enter Try.func22, Try.ntmps22
  go_upto_region 1 with (fail)
  obtain ⟨W, hW⟩ : ∃ W, W = w.alloc (.cells #[.int .i64 0, .int .i64 0, .int .i64 0, .int .i64 0, .int .i64 0, .int .i64 0, .bool false] 27) := ⟨_, rfl⟩
  rw [← hW] at T0 HB0 ⊢
  clear hW
  obtain ⟨⟨t0, t1, t2, t3, t4, t5, t6⟩, _⟩ := seven_of_block T0.out
  rcases hcs with hn | ⟨hn0, hn⟩
  · go_wp2
    clear t0 t1 t2 t3 t4 t5 t6
    obtain ⟨⟨s0, s1, s2, s3, s4, s5, s6⟩, _⟩ := seven_of_block (seven_set T0.out (.int .i64 0) (.int .i64 0) (.int .i64 0) (.int .i64 0) (.int .i64 0) (.int .i64 0) (.bool false))
    refine bodyPost_ret (v := .tuple #[.agg #[.int .i64 0, .int .i64 0, .int .i64 0, .int .i64 0, .int .i64 0, .int .i64 0, .bool false], .int .i64 2]) ?_ rfl ⟨rfl, seven_bel HB0.out _ _ _ _ _ _ _⟩
    simp [results, Try.results22, go_sem, s0, s1, s2, s3, s4, s5, s6]
  · go_wp2
    clear t0 t1 t2 t3 t4 t5 t6
    obtain ⟨⟨s0, s1, s2, s3, s4, s5, s6⟩, _⟩ := seven_of_block (seven_set T0.out (.int .i64 0) (.int .i64 0) (.int .i64 0) (.int .i64 0) (.int .i64 0) (.int .i64 0) (.bool false))
    refine bodyPost_ret (v := .tuple #[.agg #[.int .i64 0, .int .i64 0, .int .i64 0, .int .i64 0, .int .i64 0, .int .i64 0, .bool false], .int .i64 2]) ?_ rfl ⟨rfl, seven_bel HB0.out _ _ _ _ _ _ _⟩
    simp [results, Try.results22, go_sem, s0, s1, s2, s3, s4, s5, s6]
end Go.Proofs.Ytmikhkolbkdnpaa
namespace Go.Proofs.Ytmikhkolbkdnpaa
open Go.RowKit
set_option linter.unusedVariables false
set_option linter.unusedSimpArgs false

set_option maxHeartbeats 3200000 in
set_option maxRecDepth 1000000 in
theorem rformula1_1 (w : World) :
    Calls Try.prog 23 #[.int .i64 1] w fun e w' => e = .returned (.tuple #[F1V 1, .int .i64 0]) ∧ Below w.heap.size w w' := by
  rw [F1V_1]
  have HLv := Lib.hid (fun W => level0_any 1 W)
  rw [show lvI 1 = 0 from rfl] at HLv
  have HG : Hid (∀ W, Calls Try.prog 33 #[.agg #[.int .i64 1, .int .i64 0, .int .i64 1, .int .i64 1, .int .i64 1, .int .i64 0, .bool true]] W fun e w' => e = .returned (.agg #[.int .i64 1, .int .i64 0, .int .i64 1, .int .i64 1, .int .i64 1, .int .i64 0, .bool true]) ∧ Below W.heap.size W w') := fun W =>
    rgenus_any 1 0 1 1 1 0 true W (by omega) (by omega) (by omega) (by omega)
  have T0 : Hid ((w.alloc (.cells #[.int .i64 0, .int .i64 0, .int .i64 0, .int .i64 0, .int .i64 0, .int .i64 0, .bool false] 27)).heap[w.heap.size]? = some (.cells #[.int .i64 0, .int .i64 0, .int .i64 0, .int .i64 0, .int .i64 0, .int .i64 0, .bool false] 27 (0, 0))) := heap_alloc_new w _
  have HB0 : Hid (Below w.heap.size w (w.alloc (.cells #[.int .i64 0, .int .i64 0, .int .i64 0, .int .i64 0, .int .i64 0, .int .i64 0, .bool false] 27))) := below1 w _
  go_enter Try.func23, Try.ntmps23
  go_upto_region 1 with (fail)
  obtain ⟨W, hW⟩ : ∃ W, W = w.alloc (.cells #[.int .i64 0, .int .i64 0, .int .i64 0, .int .i64 0, .int .i64 0, .int .i64 0, .bool false] 27) := ⟨_, rfl⟩
  rw [← hW] at T0 HB0 ⊢
  clear hW
  go_wp2_with (first
    | (go_at_call 51; ((with_reducible refine (HLv.out _).mono ?_); rintro e w' ⟨rfl, rfl⟩))
    | (go_at_call 33; ((with_reducible refine (HG.out _).mono ?_); rintro e w5 ⟨rfl, hb⟩; have HB5 := Lib.hid (bel0 HB0.out hb); have T5 := Lib.hid (block_below T0.out hb); obtain ⟨⟨t0, t1, t2, t3, t4, t5, t6⟩, _⟩ := seven_of_block T5.out; clear hb))
    | fail)
  obtain ⟨⟨s0, s1, s2, s3, s4, s5, s6⟩, _⟩ := seven_of_block (seven_set T5.out (.int .i64 1) (.int .i64 0) (.int .i64 1) (.int .i64 1) (.int .i64 1) (.int .i64 0) (.bool true))
  refine bodyPost_ret (v := .tuple #[.agg #[.int .i64 1, .int .i64 0, .int .i64 1, .int .i64 1, .int .i64 1, .int .i64 0, .bool true], .int .i64 0]) ?_ rfl ⟨rfl, seven_bel HB5.out _ _ _ _ _ _ _⟩
  simp [results, Try.results23, go_sem, s0, s1, s2, s3, s4, s5, s6]
set_option maxHeartbeats 3200000 in
set_option maxRecDepth 1000000 in
theorem rformula1_2 (w : World) :
    Calls Try.prog 23 #[.int .i64 2] w fun e w' => e = .returned (.tuple #[F1V 2, .int .i64 0]) ∧ Below w.heap.size w w' := by
  rw [F1V_2]
  have HLv := Lib.hid (fun W => level0_any 2 W)
  rw [show lvI 2 = 0 from rfl] at HLv
  have HG : Hid (∀ W, Calls Try.prog 33 #[.agg #[.int .i64 3, .int .i64 0, .int .i64 1, .int .i64 0, .int .i64 2, .int .i64 0, .bool true]] W fun e w' => e = .returned (.agg #[.int .i64 3, .int .i64 0, .int .i64 1, .int .i64 0, .int .i64 2, .int .i64 0, .bool true]) ∧ Below W.heap.size W w') := fun W =>
    rgenus_any 3 0 1 0 2 0 true W (by omega) (by omega) (by omega) (by omega)
  have T0 : Hid ((w.alloc (.cells #[.int .i64 0, .int .i64 0, .int .i64 0, .int .i64 0, .int .i64 0, .int .i64 0, .bool false] 27)).heap[w.heap.size]? = some (.cells #[.int .i64 0, .int .i64 0, .int .i64 0, .int .i64 0, .int .i64 0, .int .i64 0, .bool false] 27 (0, 0))) := heap_alloc_new w _
  have HB0 : Hid (Below w.heap.size w (w.alloc (.cells #[.int .i64 0, .int .i64 0, .int .i64 0, .int .i64 0, .int .i64 0, .int .i64 0, .bool false] 27))) := below1 w _
  go_enter Try.func23, Try.ntmps23
  go_upto_region 1 with (fail)
  obtain ⟨W, hW⟩ : ∃ W, W = w.alloc (.cells #[.int .i64 0, .int .i64 0, .int .i64 0, .int .i64 0, .int .i64 0, .int .i64 0, .bool false] 27) := ⟨_, rfl⟩
  rw [← hW] at T0 HB0 ⊢
  clear hW
  go_wp2_with (first
    | (go_at_call 51; ((with_reducible refine (HLv.out _).mono ?_); rintro e w' ⟨rfl, rfl⟩))
    | (go_at_call 33; ((with_reducible refine (HG.out _).mono ?_); rintro e w5 ⟨rfl, hb⟩; have HB5 := Lib.hid (bel0 HB0.out hb); have T5 := Lib.hid (block_below T0.out hb); obtain ⟨⟨t0, t1, t2, t3, t4, t5, t6⟩, _⟩ := seven_of_block T5.out; clear hb))
    | fail)
  obtain ⟨⟨s0, s1, s2, s3, s4, s5, s6⟩, _⟩ := seven_of_block (seven_set T5.out (.int .i64 3) (.int .i64 0) (.int .i64 1) (.int .i64 0) (.int .i64 2) (.int .i64 0) (.bool true))
  refine bodyPost_ret (v := .tuple #[.agg #[.int .i64 3, .int .i64 0, .int .i64 1, .int .i64 0, .int .i64 2, .int .i64 0, .bool true], .int .i64 0]) ?_ rfl ⟨rfl, seven_bel HB5.out _ _ _ _ _ _ _⟩
  simp [results, Try.results23, go_sem, s0, s1, s2, s3, s4, s5, s6]
set_option maxHeartbeats 3200000 in
set_option maxRecDepth 1000000 in
theorem rformula1_3 (w : World) :
    Calls Try.prog 23 #[.int .i64 3] w fun e w' => e = .returned (.tuple #[F1V 3, .int .i64 0]) ∧ Below w.heap.size w w' := by
  rw [F1V_3]
  have HLv := Lib.hid (fun W => level0_any 3 W)
  rw [show lvI 3 = 0 from rfl] at HLv
  have HG : Hid (∀ W, Calls Try.prog 33 #[.agg #[.int .i64 4, .int .i64 0, .int .i64 0, .int .i64 1, .int .i64 2, .int .i64 0, .bool false]] W fun e w' => e = .returned (.agg #[.int .i64 4, .int .i64 0, .int .i64 0, .int .i64 1, .int .i64 2, .int .i64 0, .bool false]) ∧ Below W.heap.size W w') := fun W =>
    rgenus_any 4 0 0 1 2 0 false W (by omega) (by omega) (by omega) (by omega)
  have T0 : Hid ((w.alloc (.cells #[.int .i64 0, .int .i64 0, .int .i64 0, .int .i64 0, .int .i64 0, .int .i64 0, .bool false] 27)).heap[w.heap.size]? = some (.cells #[.int .i64 0, .int .i64 0, .int .i64 0, .int .i64 0, .int .i64 0, .int .i64 0, .bool false] 27 (0, 0))) := heap_alloc_new w _
  have HB0 : Hid (Below w.heap.size w (w.alloc (.cells #[.int .i64 0, .int .i64 0, .int .i64 0, .int .i64 0, .int .i64 0, .int .i64 0, .bool false] 27))) := below1 w _
  go_enter Try.func23, Try.ntmps23
  go_upto_region 1 with (fail)
  obtain ⟨W, hW⟩ : ∃ W, W = w.alloc (.cells #[.int .i64 0, .int .i64 0, .int .i64 0, .int .i64 0, .int .i64 0, .int .i64 0, .bool false] 27) := ⟨_, rfl⟩
  rw [← hW] at T0 HB0 ⊢
  clear hW
  go_wp2_with (first
    | (go_at_call 51; ((with_reducible refine (HLv.out _).mono ?_); rintro e w' ⟨rfl, rfl⟩))
    | (go_at_call 33; ((with_reducible refine (HG.out _).mono ?_); rintro e w5 ⟨rfl, hb⟩; have HB5 := Lib.hid (bel0 HB0.out hb); have T5 := Lib.hid (block_below T0.out hb); obtain ⟨⟨t0, t1, t2, t3, t4, t5, t6⟩, _⟩ := seven_of_block T5.out; clear hb))
    | fail)
  obtain ⟨⟨s0, s1, s2, s3, s4, s5, s6⟩, _⟩ := seven_of_block (seven_set T5.out (.int .i64 4) (.int .i64 0) (.int .i64 0) (.int .i64 1) (.int .i64 2) (.int .i64 0) (.bool false))
  refine bodyPost_ret (v := .tuple #[.agg #[.int .i64 4, .int .i64 0, .int .i64 0, .int .i64 1, .int .i64 2, .int .i64 0, .bool false], .int .i64 0]) ?_ rfl ⟨rfl, seven_bel HB5.out _ _ _ _ _ _ _⟩
  simp [results, Try.results23, go_sem, s0, s1, s2, s3, s4, s5, s6]
set_option maxHeartbeats 3200000 in
set_option maxRecDepth 1000000 in
theorem rformula1_4 (w : World) :
    Calls Try.prog 23 #[.int .i64 4] w fun e w' => e = .returned (.tuple #[F1V 4, .int .i64 0]) ∧ Below w.heap.size w w' := by
  rw [F1V_4]
  have HLv := Lib.hid (fun W => level0_any 4 W)
  rw [show lvI 4 = 0 from rfl] at HLv
  have HG : Hid (∀ W, Calls Try.prog 33 #[.agg #[.int .i64 6, .int .i64 0, .int .i64 0, .int .i64 0, .int .i64 3, .int .i64 1, .bool false]] W fun e w' => e = .returned (.agg #[.int .i64 6, .int .i64 0, .int .i64 0, .int .i64 0, .int .i64 3, .int .i64 1, .bool false]) ∧ Below W.heap.size W w') := fun W =>
    rgenus_any 6 0 0 0 3 1 false W (by omega) (by omega) (by omega) (by omega)
  have T0 : Hid ((w.alloc (.cells #[.int .i64 0, .int .i64 0, .int .i64 0, .int .i64 0, .int .i64 0, .int .i64 0, .bool false] 27)).heap[w.heap.size]? = some (.cells #[.int .i64 0, .int .i64 0, .int .i64 0, .int .i64 0, .int .i64 0, .int .i64 0, .bool false] 27 (0, 0))) := heap_alloc_new w _
  have HB0 : Hid (Below w.heap.size w (w.alloc (.cells #[.int .i64 0, .int .i64 0, .int .i64 0, .int .i64 0, .int .i64 0, .int .i64 0, .bool false] 27))) := below1 w _
  go_enter Try.func23, Try.ntmps23
  go_upto_region 1 with (fail)
  obtain ⟨W, hW⟩ : ∃ W, W = w.alloc (.cells #[.int .i64 0, .int .i64 0, .int .i64 0, .int .i64 0, .int .i64 0, .int .i64 0, .bool false] 27) := ⟨_, rfl⟩
  rw [← hW] at T0 HB0 ⊢
  clear hW
  go_wp2_with (first
    | (go_at_call 51; ((with_reducible refine (HLv.out _).mono ?_); rintro e w' ⟨rfl, rfl⟩))
    | (go_at_call 33; ((with_reducible refine (HG.out _).mono ?_); rintro e w5 ⟨rfl, hb⟩; have HB5 := Lib.hid (bel0 HB0.out hb); have T5 := Lib.hid (block_below T0.out hb); obtain ⟨⟨t0, t1, t2, t3, t4, t5, t6⟩, _⟩ := seven_of_block T5.out; clear hb))
    | fail)
  obtain ⟨⟨s0, s1, s2, s3, s4, s5, s6⟩, _⟩ := seven_of_block (seven_set T5.out (.int .i64 6) (.int .i64 0) (.int .i64 0) (.int .i64 0) (.int .i64 3) (.int .i64 1) (.bool false))
  refine bodyPost_ret (v := .tuple #[.agg #[.int .i64 6, .int .i64 0, .int .i64 0, .int .i64 0, .int .i64 3, .int .i64 1, .bool false], .int .i64 0]) ?_ rfl ⟨rfl, seven_bel HB5.out _ _ _ _ _ _ _⟩
  simp [results, Try.results23, go_sem, s0, s1, s2, s3, s4, s5, s6]
set_option maxHeartbeats 3200000 in
set_option maxRecDepth 1000000 in
theorem rformula1_bad (n : Int) (w : World) (hn : n < 1 ∨ 120 < n) :
    Calls Try.prog 23 #[.int .i64 n] w fun e w' => e = .returned (.tuple #[.agg #[.int .i64 0, .int .i64 0, .int .i64 0, .int .i64 0, .int .i64 0, .int .i64 0, .bool false], .int .i64 2]) ∧ Below w.heap.size w w' := by
  have HLv := Lib.hid (fun W => level0_any n W)
  rw [lv_no hn] at HLv
  clear hn
  have T0 : Hid ((w.alloc (.cells #[.int .i64 0, .int .i64 0, .int .i64 0, .int .i64 0, .int .i64 0, .int .i64 0, .bool false] 27)).heap[w.heap.size]? = some (.cells #[.int .i64 0, .int .i64 0, .int .i64 0, .int .i64 0, .int .i64 0, .int .i64 0, .bool false] 27 (0, 0))) := heap_alloc_new w _
  have HB0 : Hid (Below w.heap.size w (w.alloc (.cells #[.int .i64 0, .int .i64 0, .int .i64 0, .int .i64 0, .int .i64 0, .int .i64 0, .bool false] 27))) := below1 w _
  go_enter Try.func23, Try.ntmps23
  go_upto_region 1 with (fail)
  obtain ⟨W, hW⟩ : ∃ W, W = w.alloc (.cells #[.int .i64 0, .int .i64 0, .int .i64 0, .int .i64 0, .int .i64 0, .int .i64 0, .bool false] 27) := ⟨_, rfl⟩
  rw [← hW] at T0 HB0 ⊢
  clear hW
  obtain ⟨⟨t0, t1, t2, t3, t4, t5, t6⟩, _⟩ := seven_of_block T0.out
  go_wp2_with (first
    | (go_at_call 51; ((with_reducible refine (HLv.out _).mono ?_); rintro e w' ⟨rfl, rfl⟩))
    | fail)
  clear t0 t1 t2 t3 t4 t5 t6
  obtain ⟨⟨s0, s1, s2, s3, s4, s5, s6⟩, _⟩ := seven_of_block (seven_set T0.out (.int .i64 0) (.int .i64 0) (.int .i64 0) (.int .i64 0) (.int .i64 0) (.int .i64 0) (.bool false))
  refine bodyPost_ret (v := .tuple #[.agg #[.int .i64 0, .int .i64 0, .int .i64 0, .int .i64 0, .int .i64 0, .int .i64 0, .bool false], .int .i64 2]) ?_ rfl ⟨rfl, seven_bel HB0.out _ _ _ _ _ _ _⟩
  simp [results, Try.results23, go_sem, s0, s1, s2, s3, s4, s5, s6]
end Go.Proofs.Ytmikhkolbkdnpaa
namespace Go.Proofs.Ytmikhkolbkdnpaa
open Go.RowKit
set_option linter.unusedVariables false
set_option linter.unusedSimpArgs false

set_option maxHeartbeats 6400000 in
set_option maxRecDepth 1000000 in
theorem rformula1_5 (k : Nat) (w : World) (k5 : 5 ≤ k) (k2 : (k : Int) ≤ 120) :
    Calls Try.prog 23 #[.int .i64 (k : Int)] w fun e w' => e = .returned (.tuple #[F1V k, .int .i64 0]) ∧ Below w.heap.size w w' := by
  rw [F1V_5 k5]
  have HLv := Lib.hid (fun W => level0_any (k : Int) W)
  rw [lv_yes (by omega) k2] at HLv
  have HPs := Lib.hid (fun W => rpsi_any k W (by omega) k2)
  have HPh : Hid (∀ (g : Nat), 1 ≤ g → (g : Int) ≤ 120 → ∀ W, Calls Try.prog 52 #[.int .i64 (g : Int)] W fun e w' => e = .returned (.int .i64 (phV g : Nat)) ∧ Below W.heap.size W w') := fun g h1 h2 W => by
    have := rphi_any g W h1 h2
    rwa [(rf_of h1 (by omega)).ph] at this
  have HPk := Lib.hid (HPh.out k (by omega) k2)
  have HD := Lib.hid (fun W => rdiv_any k W (by omega) k2)
  have hDl := (dvN_bd (n := k) (by omega) (by omega)).1
  have HMem := Lib.hid (dvN_bd (n := k) (by omega) (by omega)).2
  have hDp : 0 < (dvN k).length := List.length_pos_of_mem ((mem_dvN (n := k) (x := 1) (by omega)).2 ⟨k, by omega⟩)
  have HP : Hid (prF k ((dvN k).take (dvN k).length) 0 = prV k) := by show _ = _; rw [List.take_length]; rfl
  have b1 := psV_le (n := k) (by omega) (by omega)
  have b2 := phV_le k
  have b3 := prV_le (n := k) (by omega)
  have b4 : psV k * phV k ≤ 1000 * 120 := Nat.mul_le_mul b1 (by omega)
  have hm : ((psV k : Nat) : Int) * ((phV k : Nat) : Int) = ((psV k * phV k : Nat) : Int) := by simp
  generalize psV k * phV k = m at *
  generalize psV k = ps at *
  generalize phV k = ph at *
  generalize prV k = pr at *
  generalize dvN k = D at *
  obtain ⟨I, hI⟩ : ∃ I, I = (m : Int) / 2 := ⟨_, rfl⟩
  obtain ⟨C, hC⟩ : ∃ C, C = (pr : Int) / 2 := ⟨_, rfl⟩
  rw [← hI, ← hC]
  have HG : Hid (∀ W, Calls Try.prog 33 #[.agg #[.int .i64 I, .int .i64 0, .int .i64 0, .int .i64 0, .int .i64 C, .int .i64 0, .bool false]] W fun e w' => e = .returned (.agg #[.int .i64 I, .int .i64 ((12 + I - 3 * 0 - 4 * 0 - 6 * C).tdiv 12), .int .i64 0, .int .i64 0, .int .i64 C, .int .i64 0, .bool false]) ∧ Below W.heap.size W w') := fun W =>
    rgenus_any I 0 0 0 C 0 false W (by omega) (by omega) (by omega) (by omega)
  generalize (12 + I - 3 * 0 - 4 * 0 - 6 * C).tdiv 12 = gg at *
  have hI' := hI.symm
  have HC' := Lib.hid hC.symm
  have k5i : 5 ≤ (k : Int) := by omega
  have hmi : (m : Int) ≤ 120000 := by omega
  have hpri : (pr : Int) ≤ 100000 := by omega
  have hpsi : (ps : Int) ≤ 1000 := by omega
  have hphi : (ph : Int) ≤ 120 := by omega
  have ne1 : ((k : Int) == 1) = false := by rw [beq_eq_false_iff_ne]; omega
  have ne2 : ((k : Int) == 2) = false := by rw [beq_eq_false_iff_ne]; omega
  have ne3 : ((k : Int) == 3) = false := by rw [beq_eq_false_iff_ne]; omega
  have ne4 : ((k : Int) == 4) = false := by rw [beq_eq_false_iff_ne]; omega
  clear hI hC b1 b2 b3 b4
  have T0 : Hid ((w.alloc (.cells #[.int .i64 0, .int .i64 0, .int .i64 0, .int .i64 0, .int .i64 0, .int .i64 0, .bool false] 27)).heap[w.heap.size]? = some (.cells #[.int .i64 0, .int .i64 0, .int .i64 0, .int .i64 0, .int .i64 0, .int .i64 0, .bool false] 27 (0, 0))) := heap_alloc_new w _
  have HB0 : Hid (Below w.heap.size w (w.alloc (.cells #[.int .i64 0, .int .i64 0, .int .i64 0, .int .i64 0, .int .i64 0, .int .i64 0, .bool false] 27))) := below1 w _
  go_enter Try.func23, Try.ntmps23
  go_upto_region 1 with (fail)
  obtain ⟨W, hW⟩ : ∃ W, W = w.alloc (.cells #[.int .i64 0, .int .i64 0, .int .i64 0, .int .i64 0, .int .i64 0, .int .i64 0, .bool false] 27) := ⟨_, rfl⟩
  rw [← hW] at T0 HB0 ⊢
  clear hW
  go_upto_region 14 with (first
    | (go_at_call 51; ((with_reducible refine (HLv.out _).mono ?_); rintro e w' ⟨rfl, rfl⟩))
    | (go_at_call 45; ((with_reducible refine (HPs.out _).mono ?_); rintro e w2 ⟨rfl, hb⟩; have HB2 := Lib.hid hb; clear hb))
    | (go_at_call 52; ((with_reducible refine (HPk.out _).mono ?_); rintro e w3 ⟨rfl, hb⟩; have HB3 := Lib.hid (bel0 HB2.out hb); clear hb))
    | fail)
  have G0 : Hid (GR W (w3.alloc (.cells #[.int .i64 I, .int .i64 0, .int .i64 0, .int .i64 0, .int .i64 0, .int .i64 0, .bool false] 27)) w3.heap.size I 0 0 0 0 false) := ⟨heap_alloc_new w3 _, HB3.out.size, HB3.out.alloc HB3.out.size _⟩
  obtain ⟨W2, hW2⟩ : ∃ W2, W2 = w3.alloc (.cells #[.int .i64 I, .int .i64 0, .int .i64 0, .int .i64 0, .int .i64 0, .int .i64 0, .bool false] 27) := ⟨_, rfl⟩
  have hgs : w3.heap.size < W2.heap.size := by rw [hW2]; simp
  rw [← hW2] at G0 ⊢
  clear hW2 HB2 HB3 HPk HPs HLv
  generalize w3.heap.size = gb at *
  go_wp2_with (first
    | (go_at_call 53; ((with_reducible refine (HD.out _).mono ?_); rintro e w4 ⟨la, lc, rfl, hv⟩; have HO := Lib.hid hv.own; have G1 := Lib.hid (G0.out.below hv.bel); clear hv))
    | fail)
  obtain ⟨g, rfl, hg0⟩ := own_some HO.out hDp
  have HR1 : Hid (∀ i, (h : i < D.length) → w4.cell? ⟨g, i, none⟩ = some (.int .i64 (D[i] : Nat))) := fun i hi => by
    have hc0 := HO.out.cells (g := g) rfl i (.int .i64 (D[i] : Nat)) (by simp [zs, iz, hi])
    rwa [addr_add] at hc0
  have hgg : W2.heap.size ≤ g := (HO.out.lt g rfl).1
  have hne : g ≠ gb := by omega
  have hg4 : g < w4.heap.size := (HO.out.lt g rfl).2
  clear HO HD G0 hg0
  go_loopw [7] (fun X wr => ∃ q x : Nat, X = .int .i64 q ∧ q ≤ D.length ∧ x ≤ 14400 * q ∧ Hid (prF k (D.take q) 0 = x) ∧ Hid (GR W wr gb I 0 0 x 0 false) ∧ Hid (∀ i, (h : i < D.length) → wr.cell? ⟨g, i, none⟩ = some (.int .i64 (D[i] : Nat))) ∧ g < wr.heap.size) (fun X _ => D.length - (intOf X).toNat)
  case atStart => exact ⟨0, 0, rfl, Nat.zero_le _, Nat.zero_le _, rfl, G1.out, HR1.out, hg4⟩
  case round =>
    clear G1 HR1 hg4
    obtain ⟨q, x, rfl, hq, hx, HX, HV, HR, hg5⟩ := hrel
    by_cases hql : q < D.length
    · have hqi : (q : Int) < (D.length : Int) := by omega
      have x1 := HR.out q hql
      obtain ⟨m1, m2, m3⟩ := HMem.out D[q] (List.getElem_mem _)
      have HN : Hid (prF k (D.take (q + 1)) 0 = x + phV D[q] * phV (k / D[q])) := by
        show _ = _
        rw [List.take_add_one, List.getElem?_eq_getElem hql, Option.toList_some, prF_append, HX.out]; rfl
      clear HX
      generalize D[q] = d at *
      have htd : Int.tdiv (k : Int) (d : Int) = ((k / d : Nat) : Int) := (Int.ofNat_tdiv _ _).symm
      have hdv : (k : Int) / (d : Int) = ((k / d : Nat) : Int) := (Int.natCast_ediv _ _).symm
      have hq1 : 1 ≤ k / d := Nat.div_pos (Nat.le_of_dvd (by omega) m2) m1
      have hq2 : k / d ≤ 120 := Nat.le_trans (Nat.div_le_self _ _) (by omega)
      have HF1 := Lib.hid (HPh.out d m1 (by omega))
      have HF2 := Lib.hid (HPh.out (k / d) hq1 (by omega))
      have hf1 := phV_le d
      have hf2 := phV_le (k / d)
      have hmm : ((phV d : Nat) : Int) * ((phV (k / d) : Nat) : Int) = ((phV d * phV (k / d) : Nat) : Int) := by simp
      have hml : phV d * phV (k / d) ≤ 120 * 120 := Nat.mul_le_mul (by omega) (by omega)
      generalize phV d * phV (k / d) = y at *
      generalize phV d = f1 at *
      generalize phV (k / d) = f2 at *
      generalize k / d = z at *
      have hd1 : 1 ≤ (d : Int) := by omega
      have hd2 : (d : Int) ≤ 120 := by omega
      have hd0 : ((d : Int) == 0) = false := by rw [beq_eq_false_iff_ne]; omega
      have hd01 : ¬ ((d : Int) = 0) := by omega
      have hd02 : ¬ (d = 0) := by omega
      have hz2 : (z : Int) ≤ 120 := by omega
      have hf1i : (f1 : Int) ≤ 120 := by omega
      have hf2i : (f2 : Int) ≤ 120 := by omega
      have hwz : IntKind.i64.wrap (z : Int) = (z : Int) := IntWalk.i64_in _ (by omega)
      have hwm : IntKind.i64.wrap ((f1 : Int) * (f2 : Int)) = (y : Int) := by rw [hmm]; exact IntWalk.i64_in _ (by omega)
      have hwx : IntKind.i64.wrap ((x : Int) + (y : Int)) = (x : Int) + (y : Int) := IntWalk.i64_in _ (by omega)
      obtain ⟨⟨y0, y1, y2, y3, y4, y5, y6⟩, yf⟩ := seven_of_block HV.out.blk
      have hgbs := lt_of_block HV.out.blk
      have HKc : Hid (∀ W', Below wr.heap.size wr W' → W'.cell? ⟨gb, 4, none⟩ = some (.int .i64 (x : Nat)) ∧ W'.cell? ⟨g, q, none⟩ = some (.int .i64 (d : Nat))) := fun W' hb => ⟨(hb.cell (p := ⟨gb, 4, none⟩) hgbs).trans y4, (hb.cell (p := ⟨g, q, none⟩) hg5).trans x1⟩
      have D0 : Hid (Below wr.heap.size wr wr.drew) := Below.drew (Below.refl _ _)
      go_upto_region 18 with fail
      refine region_E 16 (fun w' => w'.cell? ⟨gb, 4, none⟩ = some (.int .i64 (x : Nat)) ∧ w'.cell? ⟨g, q, none⟩ = some (.int .i64 (d : Nat))) (by kernel_rfl) ?_
      have hHeld := HKc.out _ D0.out
      refine take_E (n := 16) (i := 0) (v := ?v0) rfl (by kernel_rfl) (fun _ _ _ h => h) ?hy0 (by rfl) hHeld ?rest0
      case hy0 => (intro w9 hSw; (try dsimp only at hSw); go_simp <;> with_reducible rfl)
      (try simp only [Act.put, List.setIfInBounds_toArray, List.set_cons_zero, List.set_cons_succ])
      refine take_E (n := 16) (i := 1) (v := ?v1) rfl (by kernel_rfl) (fun _ _ _ h => h) ?hy1 (by rfl) hHeld ?rest1
      case hy1 => (intro w9 hSw; (try dsimp only at hSw); go_simp <;> with_reducible rfl)
      (try simp only [Act.put, List.setIfInBounds_toArray, List.set_cons_zero, List.set_cons_succ])
      refine take_E (n := 16) (i := 2) (v := ?v2) rfl (by kernel_rfl) (fun _ _ _ h => h) ?hy2 (by rfl) hHeld ?rest2
      case hy2 => (intro w9 hSw; (try dsimp only at hSw); go_simp <;> with_reducible rfl)
      (try simp only [Act.put, List.setIfInBounds_toArray, List.set_cons_zero, List.set_cons_succ])
      refine take_E (n := 16) (i := 3) (v := ?v3) rfl (by kernel_rfl) (fun _ _ _ h => h) ?hy3 (by rfl) hHeld ?rest3
      case hy3 => (intro w9 hSw; (try dsimp only at hSw); go_simp <;> with_reducible rfl)
      (try simp only [Act.put, List.setIfInBounds_toArray, List.set_cons_zero, List.set_cons_succ])
      refine take_E (n := 16) (i := 4) (v := ?v4) rfl (by kernel_rfl) (fun _ _ _ h => h) ?hy4 (by rfl) hHeld ?rest4
      case hy4 => (intro w9 hSw; (try dsimp only at hSw); go_simp <;> with_reducible rfl)
      (try simp only [Act.put, List.setIfInBounds_toArray, List.set_cons_zero, List.set_cons_succ])
      refine take_E (n := 16) (i := 5) (v := ?v5) rfl (by kernel_rfl) (fun _ _ _ h => h) ?hy5 (by rfl) hHeld ?rest5
      case hy5 => (intro w9 hSw; (try dsimp only at hSw); go_simp <;> with_reducible rfl)
      (try simp only [Act.put, List.setIfInBounds_toArray, List.set_cons_zero, List.set_cons_succ])
      refine take_E (n := 16) (i := 7) (v := ?v7) rfl (by kernel_rfl) (fun _ _ _ h => h) ?hy7 (by rfl) hHeld ?rest7
      case hy7 => (intro w9 hSw; (try dsimp only at hSw); go_simp <;> with_reducible rfl)
      (try simp only [Act.put, List.setIfInBounds_toArray, List.set_cons_zero, List.set_cons_succ])
      refine take_E (n := 16) (i := 8) (v := ?v8) rfl (by kernel_rfl) (fun _ _ _ h => h) ?hy8 (by rfl) hHeld ?rest8
      case hy8 => (intro w9 hSw; (try dsimp only at hSw); go_simp <;> with_reducible rfl)
      (try simp only [Act.put, List.setIfInBounds_toArray, List.set_cons_zero, List.set_cons_succ])
      refine take_E (n := 16) (i := 9) (v := ?v9) rfl (by kernel_rfl) (fun _ _ _ h => h) ?hy9 (by rfl) hHeld ?rest9
      case hy9 => (intro w9 hSw; (try dsimp only at hSw); go_simp <;> with_reducible rfl)
      (try simp only [Act.put, List.setIfInBounds_toArray, List.set_cons_zero, List.set_cons_succ])
      refine take_E (n := 16) (i := 10) (v := ?v10) rfl (by kernel_rfl) (fun _ _ _ h => h) ?hy10 (by rfl) hHeld ?rest10
      case hy10 => (intro w9 hSw; (try dsimp only at hSw); go_simp <;> with_reducible rfl)
      (try simp only [Act.put, List.setIfInBounds_toArray, List.set_cons_zero, List.set_cons_succ])
      refine take_E (n := 16) (i := 11) (v := ?v11) rfl (by kernel_rfl) (fun _ _ _ h => h) ?hy11 (by rfl) hHeld ?rest11
      case hy11 => (intro w9 hSw; (try dsimp only at hSw); go_simp <;> with_reducible rfl)
      (try simp only [Act.put, List.setIfInBounds_toArray, List.set_cons_zero, List.set_cons_succ])
      refine take_E (n := 16) (i := 12) (v := ?v12) rfl (by kernel_rfl) (fun _ _ _ h => h) ?hy12 (by rfl) hHeld ?rest12
      case hy12 => (intro w9 hSw; (try dsimp only at hSw); go_simp <;> with_reducible rfl)
      (try simp only [Act.put, List.setIfInBounds_toArray, List.set_cons_zero, List.set_cons_succ])
      refine one_E (n := 16) (i := 6) (by kernel_rfl) rfl (fun K hK => ?_)
      go_simp
      go_at_call 52
      refine (HF1.out _).mono ?_
      rintro e w5 ⟨rfl, hb⟩
      have D1 : Hid (Below wr.heap.size wr w5) := bel0 D0.out hb
      clear hb
      refine hK.out _ _ (fun _ => HKc.out _ D1.out) (fun hHeld6 => ?_)
      clear hK K
      (try simp only [Act.put, List.setIfInBounds_toArray, List.set_cons_zero, List.set_cons_succ])
      refine one_E (n := 16) (i := 13) (by kernel_rfl) rfl (fun K hK => ?_)
      go_simp
      go_at_call 52
      refine (HF2.out _).mono ?_
      rintro e w6 ⟨rfl, hb⟩
      have D2 : Hid (Below wr.heap.size wr w6) := bel0 D1.out hb
      have G6 := Lib.hid (HV.out.below D2.out)
      obtain ⟨⟨z0, z1, z2, z3, z4, z5, z6⟩, zf⟩ := seven_of_block G6.out.blk
      clear hb
      refine hK.out _ _ (fun _ => HKc.out _ D2.out) (fun hHeld13 => ?_)
      clear hK K
      (try simp only [Act.put, List.setIfInBounds_toArray, List.set_cons_zero, List.set_cons_succ])
      refine one_E (n := 16) (i := 14) (by kernel_rfl) rfl (fun K hK => ?_)
      go_simp
      refine hK.out _ _ (fun _ => HKc.out _ D2.out) (fun hHeld14 => ?_)
      clear hK K
      (try simp only [Act.put, List.setIfInBounds_toArray, List.set_cons_zero, List.set_cons_succ])
      refine one_E (n := 16) (i := 15) (by kernel_rfl) rfl (fun K hK => ?_)
      go_simp
      refine hK.out _ _ (fun _ => HKc.out _ D2.out) (fun hHeld15 => ?_)
      clear hK K
      (try simp only [Act.put, List.setIfInBounds_toArray, List.set_cons_zero, List.set_cons_succ])
      refine one_E (n := 16) (i := 16) (by kernel_rfl) rfl (fun K hK => ?_)
      go_simp
      refine hK.out _ _ (fun h => absurd h (by decide)) (fun hHeld16 => ?_)
      clear hK K
      (try simp only [Act.put, List.setIfInBounds_toArray, List.set_cons_zero, List.set_cons_succ])
      refine one_E (n := 16) (i := 17) (by kernel_rfl) rfl (fun K hK => ?_)
      go_simp
      refine hK.out _ _ (fun h => absurd h (by decide)) (fun hHeld17 => ?_)
      clear hK K
      (try simp only [Act.put, List.setIfInBounds_toArray, List.set_cons_zero, List.set_cons_succ])
      refine done_E (by kernel_rfl) ?_ _
      clear hwx hwm hwz htd hd01 hd02
      go_wp2_with fail
      go_roundw
      case rel => exact ⟨q + 1, x + y, by go_num, by omega, by omega, HN.out, G6.out.set4 ((x : Int) + (y : Int)), fun i hi => (World.cell?_of_block (w := w6) (Below.heap_setCell w6 ⟨gb, 4, none⟩ _ g hne)).trans ((D2.out.cell (p := ⟨g, i, none⟩) hg5).trans (HR.out i hi)), by have := D2.out.size; simp; omega⟩
      case measure => simp [intOf]; omega
    · obtain rfl : q = D.length := by omega
      have hk3 : ¬ (D.length : Int) < (D.length : Int) := by omega
      have hxp : x = pr := by rw [← HP.out, HX.out]
      subst hxp
      have hC' := HC'.out
      obtain ⟨⟨y0, y1, y2, y3, y4, y5, y6⟩, yf⟩ := seven_of_block HV.out.blk
      go_upto_region 20 with (fail)
      have G7 := Lib.hid (HV.out.set4 C)
      clear hk3 y0 y1 y2 y3 y4 y5 y6 yf
      obtain ⟨W7, hW7⟩ : ∃ W7, W7 = wr.setCell ⟨gb, 4, none⟩ (.int .i64 C) := ⟨_, rfl⟩
      rw [← hW7] at G7 ⊢
      clear hW7 HV HR HX HPh HMem HP HC' hC'
      have hgn : w.heap.size < W.heap.size := lt_of_block T0.out
      have hgw : W.heap.size ≤ gb := G7.out.ge
      have hgne : ¬ gb = w.heap.size := by omega
      have hgne2 : ¬ w.heap.size = gb := by omega
      obtain ⟨⟨g0, g1, g2, g3, g4, g5, g6⟩, _⟩ := seven_of_block G7.out.blk
      have T5 := Lib.hid (block_below T0.out G7.out.bel)
      have HB5 := Lib.hid (bel0 HB0.out G7.out.bel)
      go_wp2_with (first
        | (go_at_call 33; ((with_reducible refine (HG.out _).mono ?_); rintro e w9 ⟨rfl, hb⟩; have HB6 := Lib.hid (bel0 HB5.out hb); have T6 := Lib.hid (block_below T5.out hb); obtain ⟨⟨t0, t1, t2, t3, t4, t5, t6⟩, _⟩ := seven_of_block T6.out; clear hb))
        | fail)
      obtain ⟨⟨s0, s1, s2, s3, s4, s5, s6⟩, _⟩ := seven_of_block (seven_set T6.out (.int .i64 I) (.int .i64 gg) (.int .i64 0) (.int .i64 0) (.int .i64 C) (.int .i64 0) (.bool false))
      refine bodyPost_ret (v := .tuple #[.agg #[.int .i64 I, .int .i64 gg, .int .i64 0, .int .i64 0, .int .i64 C, .int .i64 0, .bool false], .int .i64 0]) ?_ rfl ⟨rfl, seven_bel HB6.out _ _ _ _ _ _ _⟩
      simp [results, Try.results23, go_sem, s0, s1, s2, s3, s4, s5, s6]
end Go.Proofs.Ytmikhkolbkdnpaa
namespace Go.Proofs.Ytmikhkolbkdnpaa
open Go.RowKit
set_option linter.unusedVariables false
set_option linter.unusedSimpArgs false

theorem rformula1_any (k : Nat) (w : World) (k1 : 1 ≤ k) (k2 : (k : Int) ≤ 120) :
    Calls Try.prog 23 #[.int .i64 (k : Int)] w fun e w' => e = .returned (.tuple #[F1V k, .int .i64 0]) ∧ Below w.heap.size w w' := by
  by_cases h : 5 ≤ k
  · exact rformula1_5 k w h k2
  · have : k = 1 ∨ k = 2 ∨ k = 3 ∨ k = 4 := by omega
    rcases this with rfl | rfl | rfl | rfl
    · exact rformula1_1 w
    · exact rformula1_2 w
    · exact rformula1_3 w
    · exact rformula1_4 w
set_option maxHeartbeats 6400000 in
set_option maxRecDepth 1000000 in
theorem sg1_walk (n : Int) (w : World) :
    Calls Try.prog 8 #[.int .i64 n] w fun e w' => e = .returned (.bool true) ∧ Below w.heap.size w w' := by
  by_cases hn : n < 1 ∨ 120 < n
  · have HF := Lib.hid (fun W => formula1_bad n W hn)
    have HR := Lib.hid (fun W => rformula1_bad n W hn)
    clear hn
    go_enter Try.func8, Try.ntmps8
    go_upto_region 5 with (first
      | (go_at_call 10; ((with_reducible refine (awake_any _).mono ?_); rintro e w1 ⟨rfl, hb⟩; have HB1 := Lib.hid hb; clear hb))
      | (go_at_call 22; ((with_reducible refine (HF.out _).mono ?_); rintro e w2 ⟨rfl, hb⟩; have HB2 := Lib.hid (bel0 HB1.out hb); clear hb))
      | (go_at_call 23; ((with_reducible refine (HR.out _).mono ?_); rintro e w3 ⟨rfl, hb⟩; have X3 := Lib.hid (block_below (heap_alloc_new w2 (.cells #[.int .i64 0, .int .i64 0, .int .i64 0, .int .i64 0, .int .i64 0, .int .i64 0, .bool false] 27)) hb); have HB3 := Lib.hid (bel0 (HB2.out.alloc HB2.out.size (.cells #[.int .i64 0, .int .i64 0, .int .i64 0, .int .i64 0, .int .i64 0, .int .i64 0, .bool false] 27)) hb); clear hb))
      | fail)
    have X4 := Lib.hid (block_alloc X3.out (.cells #[.int .i64 0, .int .i64 0, .int .i64 0, .int .i64 0, .int .i64 0, .int .i64 0, .bool false] 27))
    have Y4 := Lib.hid (heap_alloc_new w3 (.cells #[.int .i64 0, .int .i64 0, .int .i64 0, .int .i64 0, .int .i64 0, .int .i64 0, .bool false] 27))
    have HB5 := Lib.hid (HB3.out.alloc HB3.out.size (.cells #[.int .i64 0, .int .i64 0, .int .i64 0, .int .i64 0, .int .i64 0, .int .i64 0, .bool false] 27))
    obtain ⟨w5, hw5⟩ : ∃ W, W = w3.alloc (.cells #[.int .i64 0, .int .i64 0, .int .i64 0, .int .i64 0, .int .i64 0, .int .i64 0, .bool false] 27) := ⟨_, rfl⟩
    rw [← hw5] at X4 Y4 HB5 ⊢
    clear hw5 X3 HB1 HB2 HB3 HF HR
    generalize w2.heap.size = a1 at *
    generalize w3.heap.size = a2 at *
    obtain ⟨⟨x0, x1, x2, x3, x4, x5, x6⟩, _⟩ := seven_of_block X4.out
    obtain ⟨⟨y0, y1, y2, y3, y4, y5, y6⟩, _⟩ := seven_of_block Y4.out
    go_wp2
    go_ret
    exact ⟨rfl, HB5.out⟩
  obtain ⟨m, rfl⟩ : ∃ m : Nat, n = (m : Nat) := ⟨n.toNat, by omega⟩
  have HF := Lib.hid (fun W => formula1_any m W (by omega) (by omega))
  have HR := Lib.hid (fun W => rformula1_any m W (by omega) (by omega))
  by_cases h24 : 24 < m
  · have h24i : (24 : Int) < (m : Int) := by omega
    clear hn h24
    unfold F1V at HF HR
    generalize ix1 m = ix at *
    generalize ge1 m = ge at *
    generalize n21 m = n2 at *
    generalize n31 m = n3 at *
    generalize cu1 m = cu at *
    generalize ir1 m = ir at *
    generalize decide (m ≤ 2) = mi at *
    go_enter Try.func8, Try.ntmps8
    go_upto_region 5 with (first
      | (go_at_call 10; ((with_reducible refine (awake_any _).mono ?_); rintro e w1 ⟨rfl, hb⟩; have HB1 := Lib.hid hb; clear hb))
      | (go_at_call 22; ((with_reducible refine (HF.out _).mono ?_); rintro e w2 ⟨rfl, hb⟩; have HB2 := Lib.hid (bel0 HB1.out hb); clear hb))
      | (go_at_call 23; ((with_reducible refine (HR.out _).mono ?_); rintro e w3 ⟨rfl, hb⟩; have X3 := Lib.hid (block_below (heap_alloc_new w2 (.cells #[.int .i64 (ix : Int), .int .i64 ge, .int .i64 (n2 : Int), .int .i64 (n3 : Int), .int .i64 (cu : Int), .int .i64 (ir : Int), .bool mi] 27)) hb); have HB3 := Lib.hid (bel0 (HB2.out.alloc HB2.out.size (.cells #[.int .i64 (ix : Int), .int .i64 ge, .int .i64 (n2 : Int), .int .i64 (n3 : Int), .int .i64 (cu : Int), .int .i64 (ir : Int), .bool mi] 27)) hb); clear hb))
      | fail)
    have X4 := Lib.hid (block_alloc X3.out (.cells #[.int .i64 (ix : Int), .int .i64 ge, .int .i64 (n2 : Int), .int .i64 (n3 : Int), .int .i64 (cu : Int), .int .i64 (ir : Int), .bool mi] 27))
    have Y4 := Lib.hid (heap_alloc_new w3 (.cells #[.int .i64 (ix : Int), .int .i64 ge, .int .i64 (n2 : Int), .int .i64 (n3 : Int), .int .i64 (cu : Int), .int .i64 (ir : Int), .bool mi] 27))
    have HB5 := Lib.hid (HB3.out.alloc HB3.out.size (.cells #[.int .i64 (ix : Int), .int .i64 ge, .int .i64 (n2 : Int), .int .i64 (n3 : Int), .int .i64 (cu : Int), .int .i64 (ir : Int), .bool mi] 27))
    obtain ⟨w5, hw5⟩ : ∃ W, W = w3.alloc (.cells #[.int .i64 (ix : Int), .int .i64 ge, .int .i64 (n2 : Int), .int .i64 (n3 : Int), .int .i64 (cu : Int), .int .i64 (ir : Int), .bool mi] 27) := ⟨_, rfl⟩
    rw [← hw5] at X4 Y4 HB5 ⊢
    clear hw5 X3 HB1 HB2 HB3 HF HR
    generalize w2.heap.size = a1 at *
    generalize w3.heap.size = a2 at *
    obtain ⟨⟨x0, x1, x2, x3, x4, x5, x6⟩, _⟩ := seven_of_block X4.out
    obtain ⟨⟨y0, y1, y2, y3, y4, y5, y6⟩, _⟩ := seven_of_block Y4.out
    go_wp2
    go_ret
    exact ⟨rfl, HB5.out⟩
  · have h24i : ¬ (24 : Int) < (m : Int) := by omega
    obtain ⟨hk1, hk2⟩ := g1_sgx (k := m) (by omega) (by omega)
    have HOf := Lib.hid (fun W => of_ok (d1_of (k := m) (by omega) (by omega)).1 W)
    have HSo := Lib.hid (fun (B : Nat) (W : World) (AS AT : Option Addr) (cS cT : Nat) (h1 : RdZ W B AS cS (olS 2 (m : Int))) (h2 : RdZ W B AT cT (olT 2 (m : Int))) (hB : B ≤ W.heap.size) => sof_any W h1 h2 hB)
    rw [hk1, hk2] at HSo
    clear hn h24 hk1 hk2
    unfold F1V at HF HR
    generalize ix1 m = ix at *
    generalize ge1 m = ge at *
    generalize n21 m = n2 at *
    generalize n31 m = n3 at *
    generalize cu1 m = cu at *
    generalize ir1 m = ir at *
    generalize decide (m ≤ 2) = mi at *
    generalize olS 2 (m : Int) = lS at *
    generalize olT 2 (m : Int) = lT at *
    go_enter Try.func8, Try.ntmps8
    go_upto_region 5 with (first
      | (go_at_call 10; ((with_reducible refine (awake_any _).mono ?_); rintro e w1 ⟨rfl, hb⟩; have HB1 := Lib.hid hb; clear hb))
      | (go_at_call 22; ((with_reducible refine (HF.out _).mono ?_); rintro e w2 ⟨rfl, hb⟩; have HB2 := Lib.hid (bel0 HB1.out hb); clear hb))
      | (go_at_call 23; ((with_reducible refine (HR.out _).mono ?_); rintro e w3 ⟨rfl, hb⟩; have X3 := Lib.hid (block_below (heap_alloc_new w2 (.cells #[.int .i64 (ix : Int), .int .i64 ge, .int .i64 (n2 : Int), .int .i64 (n3 : Int), .int .i64 (cu : Int), .int .i64 (ir : Int), .bool mi] 27)) hb); have HB3 := Lib.hid (bel0 (HB2.out.alloc HB2.out.size (.cells #[.int .i64 (ix : Int), .int .i64 ge, .int .i64 (n2 : Int), .int .i64 (n3 : Int), .int .i64 (cu : Int), .int .i64 (ir : Int), .bool mi] 27)) hb); clear hb))
      | fail)
    have X4 := Lib.hid (block_alloc X3.out (.cells #[.int .i64 (ix : Int), .int .i64 ge, .int .i64 (n2 : Int), .int .i64 (n3 : Int), .int .i64 (cu : Int), .int .i64 (ir : Int), .bool mi] 27))
    have Y4 := Lib.hid (heap_alloc_new w3 (.cells #[.int .i64 (ix : Int), .int .i64 ge, .int .i64 (n2 : Int), .int .i64 (n3 : Int), .int .i64 (cu : Int), .int .i64 (ir : Int), .bool mi] 27))
    have HB5 := Lib.hid (HB3.out.alloc HB3.out.size (.cells #[.int .i64 (ix : Int), .int .i64 ge, .int .i64 (n2 : Int), .int .i64 (n3 : Int), .int .i64 (cu : Int), .int .i64 (ir : Int), .bool mi] 27))
    obtain ⟨w5, hw5⟩ : ∃ W, W = w3.alloc (.cells #[.int .i64 (ix : Int), .int .i64 ge, .int .i64 (n2 : Int), .int .i64 (n3 : Int), .int .i64 (cu : Int), .int .i64 (ir : Int), .bool mi] 27) := ⟨_, rfl⟩
    rw [← hw5] at X4 Y4 HB5 ⊢
    clear hw5 X3 HB1 HB2 HB3 HF HR
    generalize w2.heap.size = a1 at *
    generalize w3.heap.size = a2 at *
    obtain ⟨⟨x0, x1, x2, x3, x4, x5, x6⟩, _⟩ := seven_of_block X4.out
    obtain ⟨⟨y0, y1, y2, y3, y4, y5, y6⟩, _⟩ := seven_of_block Y4.out
    go_upto_region 11 with (first
      | (go_at_call 21; ((with_reducible refine (HOf.out _).mono ?_); rintro e w6 ⟨AS, cS, AT, cT, rfl, hrS, hrT, hb⟩; have X6 := Lib.hid (block_below X4.out hb); have HB6 := Lib.hid (bel0 HB5.out hb); have HC := Lib.hid (HSo.out w6.heap.size (w6.alloc (.cells #[.slice AS lS.length cS, .slice AT lT.length cT] 24)) AS AT cS cT (hrS.below (below1 w6 _)) (hrT.below (below1 w6 _)) (by simp)); clear hrS hrT hb))
      | (go_at_call 11; ((with_reducible refine HC.out.mono ?_); rintro e w7 ⟨rfl, hb⟩; have X7 := Lib.hid (block_below (block_alloc X6.out (.cells #[.slice AS lS.length cS, .slice AT lT.length cT] 24)) hb); have HB7 := Lib.hid (bel0 (HB6.out.alloc HB6.out.size (.cells #[.slice AS lS.length cS, .slice AT lT.length cT] 24)) hb); clear hb))
      | fail)
    have X8 := Lib.hid (block_alloc X7.out (.cells #[.int .i64 (ix : Int), .int .i64 ge, .int .i64 (n2 : Int), .int .i64 (n3 : Int), .int .i64 (cu : Int), .int .i64 (ir : Int), .bool mi] 27))
    have Z8 := Lib.hid (heap_alloc_new w7 (.cells #[.int .i64 (ix : Int), .int .i64 ge, .int .i64 (n2 : Int), .int .i64 (n3 : Int), .int .i64 (cu : Int), .int .i64 (ir : Int), .bool mi] 27))
    have HB8 := Lib.hid (HB7.out.alloc HB7.out.size (.cells #[.int .i64 (ix : Int), .int .i64 ge, .int .i64 (n2 : Int), .int .i64 (n3 : Int), .int .i64 (cu : Int), .int .i64 (ir : Int), .bool mi] 27))
    obtain ⟨W, hW⟩ : ∃ W, W = w7.alloc (.cells #[.int .i64 (ix : Int), .int .i64 ge, .int .i64 (n2 : Int), .int .i64 (n3 : Int), .int .i64 (cu : Int), .int .i64 (ir : Int), .bool mi] 27) := ⟨_, rfl⟩
    rw [← hW] at X8 Z8 HB8 ⊢
    clear hW X7 X6 HB7 HB6 HC HSo HOf X4 Y4 x0 x1 x2 x3 x4 x5 x6 y0 y1 y2 y3 y4 y5 y6
    generalize w7.heap.size = a8 at *
    obtain ⟨⟨x0, x1, x2, x3, x4, x5, x6⟩, _⟩ := seven_of_block X8.out
    obtain ⟨⟨z0, z1, z2, z3, z4, z5, z6⟩, _⟩ := seven_of_block Z8.out
    go_wp2
    go_ret
    exact ⟨rfl, HB8.out⟩
end Go.Proofs.Ytmikhkolbkdnpaa
