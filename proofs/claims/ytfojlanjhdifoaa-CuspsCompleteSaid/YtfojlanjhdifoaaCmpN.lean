/- Plain mathematics: exactly one cusp of the list is equivalent to a cusp. -/
import Derived.Test.YtfojlanjhdifoaaCmpM
namespace Go.Proofs.Ytfojlanjhdifoaa
open Go.RowKit
set_option linter.unusedVariables false

/-- How many of a list of cusps have a numerator of the class ρ. -/
def cR (g ρ : Nat) (l : List (Int × Int)) : Nat := l.countP fun c => c.1.toNat % g == ρ
theorem st_one (d g ρ : Nat) (hρ : ρ < g) : ∀ t, ((st d g t).1 ρ = true ∧ cR g ρ (st d g t).2 = 1) ∨ ((st d g t).1 ρ = false ∧ cR g ρ (st d g t).2 = 0 ∧ ∀ p', 1 ≤ p' → p' ≤ t → Nat.gcd p' d = 1 → p' % g ≠ ρ)
  | 0 => .inr ⟨rfl, rfl, fun p' h1 h2 => by omega⟩
  | t + 1 => by
    have ih := st_one d g ρ hρ t
    by_cases h : Nat.gcd (t + 1) d = 1 ∧ (st d g t).1 ((t + 1) % g) = false
    · obtain ⟨e1, e2⟩ := st_yes h.1 h.2
      rw [e1, e2]
      have hcr : cR g ρ ((st d g t).2 ++ [(((t + 1 : Nat) : Int), (d : Int))]) = cR g ρ (st d g t).2 + if (t + 1) % g = ρ then 1 else 0 := by
        unfold cR
        rw [List.countP_append, List.countP_singleton]
        congr 1
        show (if (((t + 1 : Nat) : Int).toNat % g == ρ) = true then 1 else 0) = _
        rw [Int.toNat_natCast]
        simp only [beq_iff_eq]
      rw [hcr]
      by_cases hj : (t + 1) % g = ρ
      · rw [if_pos hj]
        refine .inl ⟨by show (if ρ = (t + 1) % g then true else _) = true; rw [if_pos hj.symm], ?_⟩
        rcases ih with ⟨h1, _⟩ | ⟨_, h2, _⟩
        · rw [hj] at h; rw [h.2] at h1; cases h1
        · rw [h2]
      · rw [if_neg hj]
        have hs : (if ρ = (t + 1) % g then true else (st d g t).1 ρ) = (st d g t).1 ρ := if_neg (Ne.symm hj)
        rcases ih with ⟨h1, h2⟩ | ⟨h1, h2, h3⟩
        · exact .inl ⟨hs.trans h1, by rw [h2]⟩
        · refine .inr ⟨hs.trans h1, by rw [h2], fun p' a1 a2 a3 => ?_⟩
          by_cases e : p' = t + 1
          · rw [e]; exact hj
          · exact h3 p' a1 (by omega) a3
    · rw [st_no h]
      rcases ih with ⟨h1, h2⟩ | ⟨h1, h2, h3⟩
      · exact .inl ⟨h1, h2⟩
      · refine .inr ⟨h1, h2, fun p' a1 a2 a3 => ?_⟩
        by_cases e : p' = t + 1
        · intro hc
          rw [e] at a3 hc
          exact h ⟨a3, by rw [hc]; exact h1⟩
        · exact h3 p' a1 (by omega) a3
/-- Units lift (numbers up to 120). -/
def liftOk (n : Nat) : Bool := (List.range n).all fun m => n % (m + 1) != 0 || (List.range (m + 1)).all fun a => Nat.gcd a (m + 1) != 1 || (List.range (n / (m + 1))).any fun k => Nat.gcd (a + k * (m + 1)) n == 1
theorem lift_all : (List.range 121).all liftOk = true := by decide +kernel
theorem lift_nat {n m a : Nat} (hn : n ≤ 120) (hm : 1 ≤ m) (hd : m ∣ n) (hn1 : 1 ≤ n) (ha : a < m) (hg : Nat.gcd a m = 1) : ∃ k, 1 ≤ k ∧ k ≤ n ∧ Nat.gcd k n = 1 ∧ k % m = a := by
  have h := List.all_eq_true.1 lift_all n (List.mem_range.2 (by omega))
  have hle := Nat.le_of_dvd (by omega) hd
  have h2 := List.all_eq_true.1 h (m - 1) (List.mem_range.2 (by omega))
  rw [show m - 1 + 1 = m by omega] at h2
  rw [Nat.mod_eq_zero_of_dvd hd] at h2
  simp only [bne_self_eq_false, Bool.false_or] at h2
  have h3 := List.all_eq_true.1 h2 a (List.mem_range.2 ha)
  rw [hg] at h3
  simp only [bne_self_eq_false, Bool.false_or] at h3
  obtain ⟨k, hk, e⟩ := List.any_eq_true.1 h3
  have hk := List.mem_range.1 hk
  rw [beq_iff_eq] at e
  have hx : (k + 1) * m ≤ n := by
    have := Nat.mul_le_mul_right m (show k + 1 ≤ n / m by omega)
    rwa [Nat.div_mul_cancel hd] at this
  rw [Nat.add_mul] at hx
  by_cases h0 : a + k * m = 0
  · rw [h0, Nat.gcd_zero_left] at e
    have hm1 : m = 1 := by omega
    exact ⟨1, by omega, by omega, Nat.gcd_one_left _, by rw [hm1, Nat.mod_one]; omega⟩
  · exact ⟨a + k * m, by omega, by omega, e, by rw [Nat.add_mul_mod_self_right, Nat.mod_eq_of_lt ha]⟩
theorem gcd_mod (q m : Int) : Int.gcd (q % m) m = Int.gcd q m := by
  have e := Int.mul_ediv_add_emod q m
  conv => rhs; rw [← e, Int.add_comm, Int.gcd_add_mul_left_left]
theorem unit_of {s r n : Int} (h : n ∣ s * r - 1) : Int.gcd s n = 1 := by
  have h1 : ((Int.gcd s n : Nat) : Int) ∣ s := Int.gcd_dvd_left _ _
  have h2 : ((Int.gcd s n : Nat) : Int) ∣ n := Int.gcd_dvd_right _ _
  have h3 : ((Int.gcd s n : Nat) : Int) ∣ 1 := by
    have e : (1 : Int) = s * r - (s * r - 1) := by omega
    rw [e]
    exact Int.dvd_sub (Int.dvd_mul_of_dvd_left h1) (Int.dvd_trans h2 h)
  have := Int.natAbs_dvd_natAbs.2 h3
  simpa using this
/-- The condition, reckoned: t is the divisor, r the cofactor of q. -/
def condB (t g p r : Int) (c : Int × Int) : Bool := decide (c.2 = t) && decide (g ∣ c.1 - p * r)
theorem cls {g : Nat} {x : Int} {c : Nat} (g1 : 1 ≤ g) : ((g : Int) ∣ (c : Int) - x) ↔ c % g = (x % g).toNat := by
  have h0 := Int.emod_nonneg x (show (g : Int) ≠ 0 by omega)
  have e : ((c % g : Nat) : Int) = (c : Int) % (g : Int) := Int.natCast_emod c g
  constructor
  · intro h
    have := (Int.emod_eq_emod_iff_emod_sub_eq_zero (m := (c : Int)) (n := (g : Int)) (k := x)).2 (Int.emod_eq_zero_of_dvd h)
    omega
  · intro h
    refine Int.dvd_of_emod_eq_zero ((Int.emod_eq_emod_iff_emod_sub_eq_zero (m := (c : Int)) (n := (g : Int)) (k := x)).1 ?_)
    omega
theorem outD_none {n d t : Nat} {g p r : Int} (h : d ≠ t) : (outD n d).countP (condB t g p r) = 0 := by
  rw [List.countP_eq_zero]
  intro c hc hb
  obtain ⟨h1, _⟩ := st_den _ _ _ c hc
  unfold condB at hb
  rw [Bool.and_eq_true, decide_eq_true_eq] at hb
  omega
theorem outD_one {n t : Nat} {p r : Int} (t1 : 1 ≤ t) (t2 : t ≤ 120) (hu : Int.gcd (p * r) (Nat.gcd t (n / t) : Nat) = 1) : (outD n t).countP (condB t (Nat.gcd t (n / t) : Nat) p r) = 1 := by
  obtain ⟨g, hg⟩ : ∃ g, g = Nat.gcd t (n / t) := ⟨_, rfl⟩
  unfold outD
  rw [← hg] at hu ⊢
  have g1 : 1 ≤ g := by rw [hg]; exact Nat.gcd_pos_of_pos_left _ t1
  have hgt : g ∣ t := by rw [hg]; exact Nat.gcd_dvd_left _ _
  have x0 := Int.emod_nonneg (p * r) (show (g : Int) ≠ 0 by omega)
  have x1 := Int.emod_lt_of_pos (p * r) (show 0 < (g : Int) by omega)
  obtain ⟨ρ, hρ⟩ : ∃ ρ, ρ = ((p * r) % (g : Int)).toNat := ⟨_, rfl⟩
  have hρi : (ρ : Int) = (p * r) % (g : Int) := by omega
  have hρg : ρ < g := by omega
  have hcop : Nat.gcd ρ g = 1 := by
    have e : Int.gcd ((p * r) % (g : Int)) g = 1 := by rw [gcd_mod]; exact hu
    rw [← hρi] at e
    exact e
  have hcnt : (st t g t).2.countP (condB t g p r) = cR g ρ (st t g t).2 := by
    unfold cR
    refine List.countP_congr fun c hc => ?_
    obtain ⟨h1, k, h2, _⟩ := st_den _ _ _ c hc
    unfold condB
    rw [h1, h2, Int.toNat_natCast, Bool.and_eq_true, decide_eq_true_eq, decide_eq_true_eq, beq_iff_eq, cls g1, hρ]
    exact ⟨fun h => h.2, fun h => ⟨rfl, h⟩⟩
  rw [hcnt]
  rcases st_one t g ρ hρg t with ⟨_, h⟩ | ⟨_, _, h⟩
  · exact h
  · obtain ⟨k, k1, k2, k3, k4⟩ := lift_nat t2 g1 hgt t1 hρg hcop
    exact absurd k4 (h k k1 k2 k3)
theorem outL_cnt {n t : Nat} {p r : Int} (t1 : 1 ≤ t) (t2 : t ≤ 120) (hu : Int.gcd (p * r) (Nat.gcd t (n / t) : Nat) = 1) : ∀ D : List Nat, D.Nodup → (outL n D).countP (condB t (Nat.gcd t (n / t) : Nat) p r) = if t ∈ D then 1 else 0
  | [], _ => by simp [outL]
  | d :: D, hD => by
    have : outL n (d :: D) = outD n d ++ outL n D := by unfold outL; simp
    obtain ⟨hd, hD'⟩ := List.nodup_cons.1 hD
    rw [this, List.countP_append, outL_cnt t1 t2 hu D hD']
    by_cases h : d = t
    · subst h
      rw [outD_one t1 t2 hu, if_neg hd, if_pos (List.mem_cons_self ..)]
    · rw [outD_none h]
      by_cases h2 : t ∈ D
      · rw [if_pos h2, if_pos (List.mem_cons_of_mem _ h2)]
      · rw [if_neg h2, if_neg]
        intro h3
        rcases List.mem_cons.1 h3 with e | e
        · exact h e.symm
        · exact h2 e
theorem divs_nodup (n : Nat) : (divs n).Nodup := List.Pairwise.filter _ List.nodup_range
/-- What a level and a cusp give. -/
structure CQ (n : Nat) (p q : Int) (t : Nat) (r m : Int) : Prop where
  t1 : 1 ≤ t
  tn : t ∣ n
  tg : (t : Int) = Int.gcd q n
  hr : q = t * r
  hm : (n : Int) = t * m
  rm : Int.gcd r m = 1
  mn : m = ((n / t : Nat) : Int)
  cnt : (L0 n).countP (condB t (Nat.gcd t (n / t) : Nat) p r) = 1
theorem cq_of {n : Nat} {p q B D : Int} (n1 : 1 ≤ n) (n2 : n ≤ 120) (hx : p * D - B * q = 1) : ∃ t r m, CQ n p q t r m := by
  obtain ⟨t, ht⟩ : ∃ t, t = Int.gcd q n := ⟨_, rfl⟩
  have hpos : 0 < t := by rw [ht]; exact Int.gcd_pos_of_ne_zero_right _ (by omega)
  have htn : t ∣ n := by rw [ht]; exact Int.natCast_dvd_natCast.1 (Int.gcd_dvd_right q n)
  have htq : (t : Int) ∣ q := by rw [ht]; exact Int.gcd_dvd_left _ _
  obtain ⟨x, y, e⟩ := bez q n
  rw [← ht] at e
  obtain ⟨r, hr⟩ := htq
  have hle := Nat.le_of_dvd (by omega) htn
  have hm : (n : Int) = t * ((n / t : Nat) : Int) := by rw [← Int.natCast_mul, Nat.mul_div_cancel' htn]
  have hg1 : ((Nat.gcd t (n / t) : Nat) : Int) ∣ t := Int.natCast_dvd_natCast.2 (Nat.gcd_dvd_left _ _)
  have hg2 : ((Nat.gcd t (n / t) : Nat) : Int) ∣ ((n / t : Nat) : Int) := Int.natCast_dvd_natCast.2 (Nat.gcd_dvd_right _ _)
  obtain ⟨m, hmn⟩ : ∃ m, m = ((n / t : Nat) : Int) := ⟨_, rfl⟩
  rw [← hmn] at hm hg2
  have hb : r * x + m * y = 1 := by
    have : (t : Int) * (r * x + m * y - 1) = 0 := by
      rw [hm] at e
      conv at e => rhs; rw [hr]
      clear hr hm hmn hx ht hg1 hg2
      grind
    rcases Int.mul_eq_zero.1 this with h | h <;> omega
  have hrm : Int.gcd r m = 1 := by
    refine unit_of (r := x) ⟨-y, ?_⟩
    rw [Int.mul_neg]; omega
  have hu : Int.gcd (p * r) (Nat.gcd t (n / t) : Nat) = 1 := by
    obtain ⟨u, hu⟩ := hg1
    obtain ⟨v, hv⟩ := hg2
    generalize ((Nat.gcd t (n / t) : Nat) : Int) = g at *
    refine unit_of (r := D * x) ⟨B * u * r - (1 + B * q) * v * y, ?_⟩
    have f1 : p * D = 1 + B * q := by omega
    have f2 : r * x = 1 - m * y := by omega
    have f3 : p * r * (D * x) = (p * D) * (r * x) := by clear f1 f2 hu hv hr hm hx hb e; grind
    have f4 : B * q = g * (B * u * r) := by
      conv => lhs; rw [hr, hu]
      clear f1 f2 f3 hu hv hr hm hx hb e
      grind
    rw [f3, f1, f2]
    have f5 : (1 + B * q) * (1 - m * y) - 1 = B * q - (1 + B * q) * (m * y) := by clear f1 f2 f3 f4 hu hv hr hm hx hb e; grind
    rw [f5, hv]
    conv => lhs; arg 1; rw [f4]
    generalize 1 + B * q = z
    clear f1 f2 f3 f4 f5 hu hv hr hm hx hb e
    grind
  have hcnt := outL_cnt (p := p) (r := r) hpos (by omega) hu (divs n) (divs_nodup n)
  rw [if_pos ((mem_divs n1).2 htn)] at hcnt
  exact ⟨t, r, m, hpos, htn, by rw [ht], hr, hm, hrm, hmn, hcnt⟩
theorem gcd_cast (a b : Nat) : Int.gcd (a : Int) (b : Int) = Nat.gcd a b := rfl
theorem no_false {n A B C D A' B' C' D' k : Int} (n1 : 1 ≤ n) (hno : ∀ j, 0 ≤ j → j < n → ¬ (witM A B C D A' B' C' D' j).c.tmod n = 0) (hk : n ∣ C' * D - C' * k * C - D' * C) : False := by
  have j0 := Int.emod_nonneg k (show n ≠ 0 by omega)
  have j1 := Int.emod_lt_of_pos k (show 0 < n by omega)
  refine hno (k % n) j0 j1 (Int.tmod_eq_zero_of_dvd ?_)
  rw [wit_c]
  have e : C' * (k % n) * C = C' * k * C - n * (C' * (k / n) * C) := by
    have := Int.mul_ediv_add_emod k n
    generalize k / n = x at *
    generalize k % n = y at *
    rw [← this]
    clear this hk hno
    grind
  rw [e]
  obtain ⟨x, hx⟩ := hk
  exact ⟨x + C' * (k / n) * C, by rw [Int.mul_add]; omega⟩
/-- Equal0 says whether the condition holds. -/
theorem EqE.cond {n : Nat} {p q p' m1 m2 m3 m4 z : Int} {t' : Nat} {b : Bool} {t : Nat} {r m : Int} (h : EqE n p q p' t' b m1 m2 m3 m4 z) (hz : z = 0) (hQ : CQ n p q t r m) (ht1 : 1 ≤ t') (htn : t' ∣ n) :
    b = condB t (Nat.gcd t (n / t) : Nat) p r (p', t') := by
  have main : ∀ A B C D A' B' C' D' : Int, ckI n p q p' t' = 0 → MatIs p q A B C D → MatIs p' t' A' B' C' D' → (b = true ↔ ∃ k, (n : Int) ∣ C' * D - C' * k * C - D' * C) → b = condB t (Nat.gcd t (n / t) : Nat) p r (p', t') := by
    intro A B C D A' B' C' D' hK hA hB hk
    obtain ⟨⟨n1, n2⟩, ⟨g1, b1, b2, b3⟩, ⟨g2, b4, b5, b6⟩⟩ := ck_zero hK
    have d1 := (hA.bd b3 b1 b2).2
    have d2 := (hB.bd b6 b4 b5).2
    obtain ⟨c1, c2⟩ := hA.col g1
    obtain ⟨c3, c4⟩ := hB.col g2
    rw [c1, c2] at d1
    rw [c3, c4] at d2
    rw [c2, c4] at hk
    have hci : condB t (Nat.gcd t (n / t) : Nat) p r (p', (t' : Int)) = true ↔ (t' = t ∧ ((Nat.gcd t (n / t) : Nat) : Int) ∣ p' - p * r) := by
      unfold condB
      rw [Bool.and_eq_true, decide_eq_true_eq, decide_eq_true_eq]
      exact ⟨fun ⟨a, b⟩ => ⟨by omega, b⟩, fun ⟨a, b⟩ => ⟨by omega, b⟩⟩
    have hgm : Int.gcd (t : Int) m = Nat.gcd t (n / t) := by rw [hQ.mn]; rfl
    have key : b = true ↔ condB t (Nat.gcd t (n / t) : Nat) p r (p', (t' : Int)) = true := by
      rw [hk, hci]
      constructor
      · rintro ⟨k, hk⟩
        obtain ⟨e1, e2⟩ := cond_to n1 (by omega) (Int.natCast_dvd_natCast.2 htn) d1 d2 hk
        have e3 : t' = t := by have := hQ.tg; omega
        subst e3
        have := e2 r m hQ.hr hQ.hm
        rw [hgm] at this
        exact ⟨rfl, this⟩
      · rintro ⟨rfl, hd⟩
        exact cond_from d1 d2 hQ.hr hQ.hm hQ.rm (by rw [hgm]; exact hd)
    cases b with
    | true => exact (key.1 rfl).symm
    | false =>
      cases hc : condB t (Nat.gcd t (n / t) : Nat) p r (p', (t' : Int)) with
      | false => rfl
      | true => exact absurd (key.2 hc) (by decide)
  cases h with
  | err e => exact absurd hz e
  | yes A B C D A' B' C' D' k _ _ _ _ hK hA hB k0 kn hno hw hm =>
    refine main _ _ _ _ _ _ _ _ hK hA hB ⟨fun _ => ⟨k, ?_⟩, fun _ => rfl⟩
    rw [← wit_c, hw]
    exact Int.dvd_of_tmod_eq_zero hm
  | no A B C D A' B' C' D' hK hA hB hno =>
    refine main _ _ _ _ _ _ _ _ hK hA hB ⟨fun h => absurd h (by decide), ?_⟩
    rintro ⟨k, hk⟩
    exact (no_false (by obtain ⟨⟨n1, n2⟩, _⟩ := ck_zero hK; omega) hno hk).elim
/-- The image under a matrix of Gamma0(n) is equivalent. -/
theorem EqE.img {n p q a b c e u v m1 m2 m3 m4 z : Int} {t : Bool} (h : EqE n p q u v t m1 m2 m3 m4 z) (hf : fitB a b c e = true) (hd : a * e - b * c = 1) (hc : n ∣ c) (hl : lvI n = 0) (hck : ck1 p q = 0) (ha : appE a b c e p q = (u, v, 0)) : z = 2 ∨ (z = 0 ∧ t = true) := by
  have hp : cuspI p q = 0 := by
    rcases ck1_cases p q with ⟨h, e⟩ | ⟨h, h1, e⟩ | ⟨h, h1, h2, e⟩ | ⟨h, h1, h2, h3, e⟩ | ⟨h, h1, h2, h3, e⟩
    · rw [e] at hck; exact absurd hck h
    · omega
    · omega
    · omega
    · exact h
  have hlow : low (a * p + b * q) (c * p + e * q) = (u, v) := by
    unfold appE at ha
    rw [if_neg (by rw [hf]; decide), if_neg (by omega), if_neg (by omega)] at ha
    split at ha
    · have := congrArg (fun x : Int × Int × Int => x.2.2) ha
      exact absurd (show (7 : Int) = 0 from this) (by decide)
    · have e1 := congrArg (fun x : Int × Int × Int => x.1) ha
      have e2 := congrArg (fun x : Int × Int × Int => x.2.1) ha
      exact Prod.ext e1 e2
  obtain ⟨s, hs0, hsg, hs1, hs2, hlo⟩ := low_spec (img_ne (by omega) (cusp_ne hp)) hlow
  have huv : cuspI u v = 0 := by
    unfold appE at ha
    rw [if_neg (by rw [hf]; decide), if_neg (by omega), if_neg (by omega), hlow] at ha
    split at ha
    · have := congrArg (fun x : Int × Int × Int => x.2.2) ha
      exact absurd (show (7 : Int) = 0 from this) (by decide)
    · rename_i hin
      have i1 : inE u = true := by
        cases h1 : inE u with
        | true => rfl
        | false => exact absurd (.inl h1) hin
      have i2 : inE v = true := by
        cases h1 : inE v with
        | true => rfl
        | false => exact absurd (.inr h1) hin
      exact cuspI_zero.2 ⟨i1, (inE_iff.1 i2).2, hlo⟩
  have hsu : s = 1 ∨ s = -1 := by
    have hg := (cuspI_zero.1 hp).2.2.cop
    have e1 : p = s * (e * u - b * v) := by
      have : e * (a * p + b * q) - b * (c * p + e * q) = (a * e - b * c) * p := by clear h hd hs1 hs2 hsg hs0; grind
      rw [hd, hs1, hs2] at this
      clear h hd hs1 hs2 hsg hs0 hlow ha
      grind
    have e2 : q = s * (a * v - c * u) := by
      have : a * (c * p + e * q) - c * (a * p + b * q) = (a * e - b * c) * q := by clear h hd hs1 hs2 hsg hs0 e1; grind
      rw [hd, hs1, hs2] at this
      clear h hd hs1 hs2 hsg hs0 hlow ha e1
      grind
    have h1 : s ∣ (Int.gcd p q : Int) := Int.dvd_coe_gcd ⟨_, e1⟩ ⟨_, e2⟩
    rw [hg] at h1
    have := Int.natAbs_dvd_natAbs.2 h1
    have : s.natAbs = 1 := by simpa using this
    omega
  by_cases hK : ckI n p q u v = 0
  · have hz : z = 0 := by
      cases h with
      | err e => exact absurd hK e
      | yes => rfl
      | no => rfl
    refine .inr ⟨hz, ?_⟩
    cases h with
    | err e => exact absurd hK e
    | yes => rfl
    | no A B C D A' B' C' D' _ hA hB hno =>
      exfalso
      obtain ⟨⟨n1, n2⟩, ⟨g1, b1, b2, b3⟩, ⟨g2, b4, b5, b6⟩⟩ := ck_zero hK
      have d1 := (hA.bd b3 b1 b2).2
      have d2 := (hB.bd b6 b4 b5).2
      obtain ⟨c1, c2⟩ := hA.col g1
      obtain ⟨c3, c4⟩ := hB.col g2
      rw [c1, c2] at d1
      rw [c3, c4] at d2
      obtain ⟨k, hk⟩ := cond_img hsu d1 d2 hd hs1 hs2 hc
      rw [← c2, ← c4] at hk
      exact no_false n1 hno hk
  · have hz : z = ckI n p q u v := by
      cases h with
      | err e => rfl
      | yes _ _ _ _ _ _ _ _ _ _ _ _ _ e => exact absurd e hK
      | no _ _ _ _ _ _ _ _ e => exact absurd e hK
    left
    rw [hz]
    unfold ckI at hK ⊢
    rw [if_pos hl, if_pos hck] at hK ⊢
    rcases ck1_cases u v with ⟨h, e⟩ | ⟨h, h1, e⟩ | ⟨h, h1, h2, e⟩ | ⟨h, h1, h2, h3, e⟩ | ⟨h, h1, h2, h3, e⟩
    · exact absurd huv h
    · exact e
    · exact e
    · exact e
    · exact absurd e hK
end Go.Proofs.Ytfojlanjhdifoaa
