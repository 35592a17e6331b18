/- Plain mathematics: of the groups Gamma1(n) only Gamma1(4) has an irregular cusp, and that has one. -/
import Derived.Test.YtdgfdbifeopiaaaSgF
import Derived.Test.YtdgfdbifeopiaaaSigM
import Derived.Test.YtdgfdbifeopiaaaClaM
namespace Go.Proofs.Ytdgfdbifeopiaaa
set_option linter.unusedVariables false

/-- How many of the classes are irregular. -/
def irN (R : Nat → Bool) (P : List Nat) : Nat := (P.filter fun p => !R p).length
theorem irN_succ (R : Nat → Bool) (P : List Nat) (k : Nat) (h : k < P.length) : irN R (P.take (k + 1)) = irN R (P.take k) + (if R P[k] = true then 0 else 1) := by
  unfold irN
  rw [List.take_add_one, List.getElem?_eq_getElem h, Option.toList_some, List.filter_append, List.length_append]
  cases e : R P[k] <;> simp [e]
theorem irN_le (R : Nat → Bool) (P : List Nat) : irN R P ≤ P.length := List.length_filter_le _ _
/-- When a cusp is irregular. -/
theorem rgN_iff {S T : List Int} (ha : Act2 S T) {p : Nat} (hp : p < S.length) : (!rgF S T p) = true ↔ mnB S = false ∧ onC (fnz T) p (fnz S (fnz S p)) := by
  cases hm : mnB S with
  | true => rw [(rg_minus ha hp hm).1]; simp
  | false =>
    have hz := rel_inv ha.ps ha.pt ha.rel
    have h1 := (perO_spec ha.pt hp).1
    have h2 := Inv2.per ha.pt hz hp h1
    have h3 := (perO_spec ha.pt (hz.lt p hp)).1
    have e : perO (fnz T) S.length (fnz S (fnz S p)) = perO (fnz T) S.length p := h3.uniq h2
    have c1 := h1.pos
    have hw : wdF S T p = wid0 (fnz T) (fun i => fnz S (fnz S i)) S.length p / 2 := (rg_other ha hp hm).2
    have hr : rgF S T p = decide (perO (fnz T) S.length p = wdF S T p) := rfl
    rw [hr, hw]
    unfold wid0
    by_cases hc : (cyL (fnz T) p (perO (fnz T) S.length p)).contains (fnz S (fnz S p)) = true
    · have ho := (cy_on ha.pt hp).1 hc
      rw [if_pos hc, Nat.add_zero, decide_eq_false (by omega)]
      exact ⟨fun _ => ⟨rfl, ho⟩, fun _ => rfl⟩
    · rw [if_neg hc, e, decide_eq_true (by omega)]
      exact ⟨fun h => by simp at h, fun h => absurd ((cy_on ha.pt hp).2 h.2) hc⟩
/-- x T^w. -/
def twQ : Nat → M4 → M4
  | 0, x => x
  | w + 1, x => mT (twQ w x)
theorem twQ_dt {x : M4} (hx : dtM x = 1) : ∀ w, dtM (twQ w x) = 1
  | 0 => hx
  | w + 1 => by show dtM (mT (twQ w x)) = 1; rw [dtM_T]; exact twQ_dt hx w
theorem twQ_row (x : M4) : ∀ w : Nat, (twQ w x).2.2.1 = x.2.2.1 ∧ (twQ w x).2.2.2 = x.2.2.2 + (w : Int) * x.2.2.1
  | 0 => ⟨rfl, by show x.2.2.2 = _; simp⟩
  | w + 1 => by
    obtain ⟨h1, h2⟩ := twQ_row x w
    refine ⟨h1, ?_⟩
    show (twQ w x).2.2.1 + (twQ w x).2.2.2 = _
    rw [h1, h2, Int.natCast_add, Int.add_mul]
    omega
theorem kco_two (n : Int) : kco 2 n = kc2 n := by unfold kco; simp
theorem kc2_iff {n : Int} {x y : M4} : kc2 n x = kc2 n y ↔ n ∣ x.2.2.1 - y.2.2.1 ∧ n ∣ x.2.2.2 - y.2.2.2 := by
  unfold kc2
  simp only [Prod.mk.injEq, mod_iff, and_true]
section
variable {n : Int} (hc : ckxI 2 n = 0) (n1 : 1 ≤ n)
include hc
theorem g1_len : (olS 2 n).length = idxN 2 n.toNat := by have _h := hc; unfold olS; rw [iz_len]; exact (srun_len _ _).2.1
theorem g1_fin : SFin (kco 2 n) (idxN 2 n.toNat) := (ckx_kf hc).1.fin
theorem g1_mem {x : M4} (hx : dtM x = 1) : kco 2 n x ∈ (srun (kco 2 n) (idxN 2 n.toNat)).K := SFin.all (ckx_kf hc).1.cos (ckx_kf hc).1.fin hx
theorem g1_lt {x : M4} (hx : dtM x = 1) : plC (kco 2 n) (idxN 2 n.toNat) x < (olS 2 n).length := by rw [g1_len hc]; exact (g1_fin hc).pl_lt (g1_mem hc hx)
theorem g1_S {x : M4} (hx : dtM x = 1) : fnz (olS 2 n) (plC (kco 2 n) (idxN 2 n.toNat) x) = plC (kco 2 n) (idxN 2 n.toNat) (mS x) := (g1_fin hc).atS (ckx_kf hc).1.cos hx (g1_mem hc hx)
theorem g1_T {x : M4} (hx : dtM x = 1) : ∀ w, itr (fnz (olT 2 n)) w (plC (kco 2 n) (idxN 2 n.toNat) x) = plC (kco 2 n) (idxN 2 n.toNat) (twQ w x)
  | 0 => rfl
  | w + 1 => by
    show fnz _ (itr _ w _) = _
    rw [g1_T hx w]
    exact (g1_fin hc).atT (ckx_kf hc).1.cos (twQ_dt hx w) (g1_mem hc (twQ_dt hx w))
theorem g1_pl {x y : M4} (hx : dtM x = 1) (hy : dtM y = 1) : plC (kco 2 n) (idxN 2 n.toNat) x = plC (kco 2 n) (idxN 2 n.toNat) y ↔ n ∣ x.2.2.1 - y.2.2.1 ∧ n ∣ x.2.2.2 - y.2.2.2 := by
  rw [← kc2_iff, ← kco_two]
  refine ⟨fun e => (g1_fin hc).pl_inj (g1_mem hc hx) (g1_mem hc hy) e, fun e => ?_⟩
  show List.idxOf _ _ = List.idxOf _ _
  rw [e]
theorem g1_onto {p : Nat} (hp : p < (olS 2 n).length) : ∃ x, dtM x = 1 ∧ plC (kco 2 n) (idxN 2 n.toNat) x = p := by
  rw [g1_len hc] at hp
  exact ⟨_, (g1_fin hc).dL hp, (g1_fin hc).pl_L hp⟩
theorem g1_SS {x : M4} (hx : dtM x = 1) : fnz (olS 2 n) (fnz (olS 2 n) (plC (kco 2 n) (idxN 2 n.toNat) x)) = plC (kco 2 n) (idxN 2 n.toNat) (mS (mS x)) := by
  rw [g1_S hc hx, g1_S hc (by rw [dtM_S]; exact hx)]
theorem g1_on {x y : M4} (hx : dtM x = 1) (hy : dtM y = 1) : onC (fnz (olT 2 n)) (plC (kco 2 n) (idxN 2 n.toNat) x) (plC (kco 2 n) (idxN 2 n.toNat) y) ↔ ∃ w : Nat, n ∣ x.2.2.1 - y.2.2.1 ∧ n ∣ x.2.2.2 + (w : Int) * x.2.2.1 - y.2.2.2 := by
  unfold onC
  constructor
  · rintro ⟨w, e⟩
    rw [g1_T hc hx w, g1_pl hc (twQ_dt hx w) hy, (twQ_row x w).1, (twQ_row x w).2] at e
    exact ⟨w, e⟩
  · rintro ⟨w, e⟩
    refine ⟨w, ?_⟩
    rw [g1_T hc hx w, g1_pl hc (twQ_dt hx w) hy, (twQ_row x w).1, (twQ_row x w).2]
    exact e
omit hc in
theorem mSS_row (x : M4) : (mS (mS x)).2.2.1 = -x.2.2.1 ∧ (mS (mS x)).2.2.2 = -x.2.2.2 := ⟨rfl, rfl⟩
omit hc in
theorem mSS_dt {x : M4} (hx : dtM x = 1) : dtM (mS (mS x)) = 1 := by rw [dtM_S, dtM_S]; exact hx
/-- The point of a matrix lies over an irregular cusp. -/
theorem g1_ir {x : M4} (hx : dtM x = 1) : (!rgF (olS 2 n) (olT 2 n) (plC (kco 2 n) (idxN 2 n.toNat) x)) = true ↔ mnB (olS 2 n) = false ∧ ∃ w : Nat, n ∣ 2 * x.2.2.1 ∧ n ∣ 2 * x.2.2.2 + (w : Int) * x.2.2.1 := by
  rw [rgN_iff (ol_act hc) (g1_lt hc hx), g1_SS hc hx, g1_on hc hx (mSS_dt hx), (mSS_row x).1, (mSS_row x).2]
  have e : ∀ w : Nat, x.2.2.1 - -x.2.2.1 = 2 * x.2.2.1 ∧ x.2.2.2 + (w : Int) * x.2.2.1 - -x.2.2.2 = 2 * x.2.2.2 + (w : Int) * x.2.2.1 := fun w => ⟨by omega, by omega⟩
  simp only [fun w => (e w).2, (e 0).1]
theorem g1_zero : plC (kco 2 n) (idxN 2 n.toNat) (1, 0, 0, 1) = 0 := by
  have h := (g1_fin hc).pl_L (j := 0) (by have := (ol_act hc).pos; rw [g1_len hc] at this; omega)
  rwa [(g1_fin hc).ri.first] at h
theorem g1_mn : mnB (olS 2 n) = decide (n ∣ 2) := by
  have h1 : dtM (1, 0, 0, 1) = 1 := by decide
  have e : fnz (olS 2 n) (fnz (olS 2 n) 0) = 0 ↔ n ∣ 2 := by
    have h2 := g1_SS hc h1
    have h3 := g1_pl hc (mSS_dt h1) h1
    rw [g1_zero hc] at h2 h3
    rw [h2, h3]
    show n ∣ -0 - 0 ∧ n ∣ -1 - 1 ↔ _
    constructor
    · rintro ⟨_, r, hr⟩; exact ⟨-r, by grind⟩
    · rintro ⟨r, hr⟩; exact ⟨⟨0, by omega⟩, -r, by grind⟩
  unfold mnB
  exact decide_eq_decide.2 e
include n1 in
theorem g1_four {x : M4} (hx : dtM x = 1) (h : (!rgF (olS 2 n) (olT 2 n) (plC (kco 2 n) (idxN 2 n.toNat) x)) = true) : n = 4 := by
  obtain ⟨hm, w, ⟨p, hp⟩, ⟨q, hq⟩⟩ := (g1_ir hc hx).1 h
  rw [g1_mn hc] at hm
  have h2 : ¬ n ∣ 2 := by simpa using hm
  have h4 : n ∣ 4 := by
    have hd : x.1 * x.2.2.2 - x.2.1 * x.2.2.1 = 1 := hx
    exact ⟨x.1 * (2 * q - w * p) - 2 * x.2.1 * p, by grind⟩
  have hle := Int.le_of_dvd (by omega) h4
  have : n = 1 ∨ n = 2 ∨ n = 3 ∨ n = 4 := by omega
  rcases this with rfl | rfl | rfl | rfl
  · exact absurd (by decide) h2
  · exact absurd (by decide) h2
  · exact absurd h4 (by decide)
  · rfl
end
theorem g1_ir4 (hc : ckxI 2 4 = 0) {x : M4} (hx : dtM x = 1) : (!rgF (olS 2 4) (olT 2 4) (plC (kco 2 4) (idxN 2 (4 : Int).toNat) x)) = true ↔ x.2.2.1 % 4 = 2 := by
  rw [g1_ir hc hx, g1_mn hc]
  have hd : x.1 * x.2.2.2 - x.2.1 * x.2.2.1 = 1 := hx
  generalize x.1 = a at *
  generalize x.2.1 = b at *
  generalize x.2.2.1 = c at *
  generalize x.2.2.2 = d at *
  have odd : c % 2 = 0 → d % 2 = 1 := fun h => by
    rcases Int.emod_two_eq d with e | e
    · exfalso
      obtain ⟨c', rfl⟩ := Int.dvd_of_emod_eq_zero h
      obtain ⟨d', rfl⟩ := Int.dvd_of_emod_eq_zero e
      have : 2 * (a * d' - b * c') = 1 := by rw [← hd]; grind
      omega
    · exact e
  constructor
  · rintro ⟨_, w, h1, h2⟩
    have hc2 : c % 2 = 0 := by omega
    have hd2 := odd hc2
    rcases (show c % 4 = 0 ∨ c % 4 = 2 by omega) with e | e
    · exfalso
      obtain ⟨c', rfl⟩ := Int.dvd_of_emod_eq_zero e
      obtain ⟨r, hr⟩ := h2
      have : 2 * d = 4 * (r - w * c') := by grind
      omega
    · exact e
  · intro h
    have hd2 := odd (by omega)
    exact ⟨by decide, 1, by omega, by omega⟩
/-- Of the groups Gamma1(n) only Gamma1(4) has an irregular cusp, and that has one. -/
theorem g1_irr {n : Int} (hc : ckxI 2 n = 0) (n1 : 1 ≤ n) : irN (rgF (olS 2 n) (olT 2 n)) (clP (olS 2 n) (olT 2 n)) = if n = 4 then 1 else 0 := by
  have ha := ol_act hc
  have hz := rel_inv ha.ps ha.pt ha.rel
  have hR := cst_reps ha.pt hz
  have hclP : clP (olS 2 n) (olT 2 n) = (cst (uB (fnz (olT 2 n)) (fun i => fnz (olS 2 n) (fnz (olS 2 n) i)) (olS 2 n).length) (olS 2 n).length).2 := clP_ok (chkA_ok ha)
  rw [hclP]
  unfold irN
  by_cases h4 : n = 4
  · subst h4
    rw [if_pos rfl]
    have hlen : ∀ {l : List Nat}, l.Nodup → (∀ p ∈ l, ∀ q ∈ l, p = q) → (∃ p, p ∈ l) → l.length = 1 := fun {l} hn hall hex => by
      match l, hn, hall, hex with
      | [], _, _, ⟨p, hp⟩ => simp at hp
      | [a], _, _, _ => rfl
      | a :: b :: l, hn, hall, _ =>
        have := hall a (by simp) b (by simp)
        subst this
        simp at hn
    refine hlen (hR.nd.filter _) (fun p hp q hq => ?_) ?_
    · obtain ⟨hp1, hp2⟩ := List.mem_filter.1 hp
      obtain ⟨hq1, hq2⟩ := List.mem_filter.1 hq
      obtain ⟨x, hx, rfl⟩ := g1_onto hc (hR.lt p hp1)
      obtain ⟨y, hy, rfl⟩ := g1_onto hc (hR.lt q hq1)
      have e1 := (g1_ir4 hc hx).1 hp2
      have e2 := (g1_ir4 hc hy).1 hq2
      refine hR.one _ hp1 _ hq1 ?_
      show uB _ _ _ _ _ = true
      rw [uB_iff ha.pt hz (g1_lt hc hx)]
      left
      rw [g1_on hc hx hy]
      have dx : x.1 * x.2.2.2 - x.2.1 * x.2.2.1 = 1 := hx
      have dy : y.1 * y.2.2.2 - y.2.1 * y.2.2.1 = 1 := hy
      have od : ∀ {a b c d : Int}, a * d - b * c = 1 → c % 4 = 2 → d % 2 = 1 := fun {a b c d} hd h => by
        rcases Int.emod_two_eq d with e | e
        · exfalso
          obtain ⟨c', rfl⟩ := Int.dvd_of_emod_eq_zero (show c % 2 = 0 by omega)
          obtain ⟨d', rfl⟩ := Int.dvd_of_emod_eq_zero e
          have : 2 * (a * d' - b * c') = 1 := by rw [← hd]; grind
          omega
        · exact e
      have o1 := od dx e1
      have o2 := od dy e2
      by_cases hs : (x.2.2.2 - y.2.2.2) % 4 = 0
      · exact ⟨0, by omega, by omega⟩
      · exact ⟨1, by omega, by omega⟩
    · have h1 : dtM (1, 0, 2, 1) = 1 := by decide
      obtain ⟨r, hr, hu⟩ := hR.all _ (g1_lt hc h1)
      refine ⟨r, List.mem_filter.2 ⟨hr, ?_⟩⟩
      obtain ⟨x, hx, rfl⟩ := g1_onto hc (hR.lt r hr)
      rw [g1_ir4 hc hx]
      have hu : uB _ _ _ _ _ = true := hu
      rw [uB_iff ha.pt hz (g1_lt hc hx)] at hu
      rcases hu with hu | hu
      · obtain ⟨w, h2, h3⟩ := (g1_on hc hx h1).1 hu
        have h2 : (4 : Int) ∣ x.2.2.1 - 2 := h2
        omega
      · have hu : onC (fnz (olT 2 4)) (fnz (olS 2 4) (fnz (olS 2 4) (plC (kco 2 4) (idxN 2 (4 : Int).toNat) x))) (plC (kco 2 4) (idxN 2 (4 : Int).toNat) (1, 0, 2, 1)) := hu
        rw [g1_SS hc hx] at hu
        obtain ⟨w, h2, h3⟩ := (g1_on hc (mSS_dt hx) h1).1 hu
        have h2 : (4 : Int) ∣ -x.2.2.1 - 2 := h2
        omega
  · rw [if_neg h4]
    have : (cst (uB (fnz (olT 2 n)) (fun i => fnz (olS 2 n) (fnz (olS 2 n) i)) (olS 2 n).length) (olS 2 n).length).2.filter (fun p => !rgF (olS 2 n) (olT 2 n) p) = [] := by
      rw [List.filter_eq_nil_iff]
      intro p hp hn
      obtain ⟨x, hx, rfl⟩ := g1_onto hc (hR.lt p hp)
      exact h4 (g1_four hc n1 hx hn)
    rw [this]
    rfl
end Go.Proofs.Ytdgfdbifeopiaaa
