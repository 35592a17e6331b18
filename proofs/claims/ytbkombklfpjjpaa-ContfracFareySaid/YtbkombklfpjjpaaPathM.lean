/- Plain mathematics of expansions and their convergents. -/
import Derived.Test.YtbkombklfpjjpaaExpL
import Derived.Test.YtbkombklfpjjpaaCvM
namespace Go.Proofs.Ytbkombklfpjjpaa

/-- Two convergents, one behind the other, on the way to P/Q; p and q are left. -/
structure OnWay (P Q p q bp bq lp lq : Int) : Prop where
  hq : 0 ≤ q
  hp : q < p
  eP : P = p * lp + q * bp
  eQ : Q = p * lq + q * bq
  l1 : 0 ≤ lq
  b1 : 0 ≤ bq
  sg : (0 ≤ lp ∧ 0 ≤ bp) ∨ (lp ≤ 0 ∧ bp ≤ 0) ∨ (lp < 0 ∧ bp = 1)
theorem le_mul_pos {p x : Int} (hp : 1 ≤ p) (hx : 0 ≤ x) : x ≤ p * x := by
  have := Int.mul_le_mul_of_nonneg_right hp hx
  omega
theorem OnWay.bd {P Q p q bp bq lp lq : Int} (h : OnWay P Q p q bp bq lp lq) : lq ≤ Q ∧ ((0 ≤ lp ∧ lp ≤ P) ∨ (P ≤ lp ∧ lp ≤ 0)) := by
  obtain ⟨h1, h2, h3, h4, h5, h6, h7⟩ := h
  have hp : 1 ≤ p := by omega
  have a1 := le_mul_pos hp h5
  have a2 := Int.mul_nonneg h1 h6
  refine ⟨by omega, ?_⟩
  rcases h7 with ⟨k1, k2⟩ | ⟨k1, k2⟩ | ⟨k1, k2⟩
  · have b1 := le_mul_pos hp k1
    have b2 := Int.mul_nonneg h1 k2
    left; omega
  · have b1 := le_mul_pos hp (show 0 ≤ -lp by omega)
    have b2 := Int.mul_nonneg h1 (show 0 ≤ -bp by omega)
    rw [Int.mul_neg] at b1 b2
    right; omega
  · subst k2
    have b1 : p * (-lp - 1) ≥ -lp - 1 := le_mul_pos hp (by omega)
    rw [Int.mul_sub, Int.mul_neg, Int.mul_one] at b1
    rw [Int.mul_one] at h3
    right
    constructor
    · omega
    · omega
theorem OnWay.in_ {P Q p q bp bq lp lq : Int} (h : OnWay P Q p q bp bq lp lq) (hP : inE P = true) (hQ : Q ≤ 1073741824) : inE lp = true ∧ inE lq = true := by
  obtain ⟨h1, h2⟩ := h.bd
  obtain ⟨p1, p2⟩ := inE_iff.1 hP
  exact ⟨inE_yes (by omega) (by omega), inE_yes (by have := h.l1; omega) (by omega)⟩
theorem OnWay.next {P Q p q bp bq lp lq : Int} (h : OnWay P Q p q bp bq lp lq) (hq : 0 < q) : OnWay P Q q (p % q) lp lq (p / q * lp + bp) (p / q * lq + bq) ∧ 1 ≤ p / q ∧ p / q ≤ p := by
  obtain ⟨h1, h2, h3, h4, h5, h6, h7⟩ := h
  have m1 := Int.emod_nonneg p (show q ≠ 0 by omega)
  have m2 := Int.emod_lt_of_pos p hq
  have e := Int.mul_ediv_add_emod p q
  have n1 : 1 ≤ p / q := (Int.le_ediv_iff_mul_le hq).2 (by omega)
  have n2 : p / q ≤ p := Int.ediv_le_self q (by omega)
  generalize p / q = n at *
  generalize p % q = r at *
  refine ⟨⟨m1, m2, ?_, ?_, ?_, h5, ?_⟩, n1, n2⟩
  · rw [h3, ← e]; simp only [Int.add_mul, Int.mul_add, Int.mul_assoc]; omega
  · rw [h4, ← e]; simp only [Int.add_mul, Int.mul_add, Int.mul_assoc]; omega
  · have := Int.mul_nonneg (show 0 ≤ n by omega) h5; omega
  · rcases h7 with ⟨k1, k2⟩ | ⟨k1, k2⟩ | ⟨k1, k2⟩
    · left; have := Int.mul_nonneg (show 0 ≤ n by omega) k1; omega
    · right; left
      have := Int.mul_nonneg (show 0 ≤ n by omega) (show 0 ≤ -lp by omega)
      rw [Int.mul_neg] at this; omega
    · right; left
      have := le_mul_pos n1 (show 0 ≤ -lp by omega)
      rw [Int.mul_neg] at this; omega
theorem gcd_step {p q : Int} : Int.gcd q (p % q) = Int.gcd p q := by
  have e := Int.mul_ediv_add_emod p q
  conv => rhs; rw [← e, Int.add_comm, Int.gcd_add_mul_left_left]
  exact Int.gcd_comm _ _
/-- The convergents of what is left are there, as many as its elements, and the last one is P/Q. -/
theorem cvg_way {P Q : Int} (hP : inE P = true) (hQ : Q ≤ 1073741824) : ∀ (n : Nat) (p q bp bq lp lq : Int), q < n → OnWay P Q p q bp bq lp lq → Int.gcd p q = 1 →
    ∃ C, cvg bp bq lp lq (cfe p q) = some C ∧ C.length = (cfe p q).length ∧ ((lp, lq) :: C).getLast? = some (P, Q)
  | n, p, q, bp, bq, lp, lq, hn, h, hg => by
    by_cases hq : q = 0
    · subst hq
      rw [cfe_zero]
      rw [Int.gcd_zero_right] at hg
      have h1 := h.hp
      have hp : p = 1 := by omega
      have e1 := h.eP
      have e2 := h.eQ
      rw [hp] at e1 e2
      refine ⟨[], rfl, rfl, ?_⟩
      show some (lp, lq) = _
      rw [show lp = P by omega, show lq = Q by omega]
    · have h0 := h.hq
      obtain ⟨h1, n1, n2⟩ := h.next (show 0 < q by omega)
      obtain ⟨k1, k2⟩ := h1.in_ hP hQ
      have m1 := h1.hp
      match n, hn with
      | 0, hn => omega
      | n + 1, hn =>
        obtain ⟨C, c1, c2, c3⟩ := cvg_way hP hQ n q (p % q) lp lq _ _ (by omega) h1 (by rw [gcd_step]; exact hg)
        rw [cfe_next (show 0 < q by omega)]
        refine ⟨_, by rw [cvg_next k1 k2, c1]; rfl, by simp [c2], ?_⟩
        rw [List.getLast?_cons_cons]; exact c3
/-- The convergents of a cusp's expansion. -/
theorem cvg_cfe {P Q : Int} (h : cuspI P Q = 0) (hq : 0 < Q) : ∃ C, cvg 0 1 1 0 (cfe P Q) = some C ∧ C.length = (cfe P Q).length ∧ C.getLast? = some (P, Q) := by
  obtain ⟨hP, hQ, hL⟩ := cuspI_zero.1 h
  have m1 := Int.emod_nonneg P (show Q ≠ 0 by omega)
  have m2 := Int.emod_lt_of_pos P hq
  have e := Int.mul_ediv_add_emod P Q
  obtain ⟨p1, p2⟩ := inE_iff.1 hP
  obtain ⟨f1, f2⟩ := floor_bd hq p1 p2
  rw [cfe_next hq]
  have hw : OnWay P Q Q (P % Q) 1 0 (P / Q * 1 + 0) (P / Q * 0 + 1) := by
    refine ⟨m1, m2, by rw [Int.mul_one, Int.add_zero]; omega, by omega, by omega, by omega, ?_⟩
    rcases Int.lt_or_le (P / Q) 0 with k | k
    · right; right; omega
    · left; omega
  obtain ⟨k1, k2⟩ := hw.in_ hP hQ
  obtain ⟨C, c1, c2, c3⟩ := cvg_way hP hQ Q.toNat Q (P % Q) 1 0 _ _ (by omega) hw (by rw [gcd_step]; exact hL.cop)
  exact ⟨_, by rw [cvg_next k1 k2, c1]; rfl, by simp [c2], c3⟩
/-- The elements of an expansion are in range, and behind the first one positive. -/
theorem cfe_pos : ∀ (n : Nat) (p q : Int), q < n → 0 ≤ q → q < p → p ≤ 1073741824 → ∀ x ∈ cfe p q, 1 ≤ x ∧ x ≤ 1073741824
  | n, p, q, hn, h0, h1, h2 => by
    by_cases hq : q = 0
    · subst hq; rw [cfe_zero]; intro x hx; cases hx
    · have hq0 : 0 < q := by omega
      have m1 := Int.emod_nonneg p hq
      have m2 := Int.emod_lt_of_pos p hq0
      have n1 : 1 ≤ p / q := (Int.le_ediv_iff_mul_le hq0).2 (by omega)
      have n2 : p / q ≤ p := Int.ediv_le_self q (by omega)
      match n, hn with
      | 0, hn => omega
      | n + 1, hn =>
        rw [cfe_next hq0]
        intro x hx
        rcases List.mem_cons.1 hx with e | hx
        · subst e; omega
        · exact cfe_pos n q (p % q) (by omega) m1 m2 (by omega) x hx
/-- An expansion behind the first element is short. -/
theorem cfe_short : ∀ (n : Nat) (p q : Int), 0 ≤ q → q < p → q < 2 ^ n → (cfe p q).length ≤ 2 * n
  | n, p, q, h0, h1, h2 => by
    by_cases hq : q = 0
    · subst hq; rw [cfe_zero]; simp
    · have hq0 : 0 < q := by omega
      have m1 := Int.emod_nonneg p hq
      have m2 := Int.emod_lt_of_pos p hq0
      match n, h2 with
      | 0, h2 => rw [Int.pow_zero] at h2; omega
      | n + 1, h2 =>
        rw [cfe_next hq0, List.length_cons]
        by_cases hr : p % q = 0
        · rw [hr, cfe_zero]; simp; omega
        · have hr0 : 0 < p % q := by omega
          generalize p % q = r at *
          rw [cfe_next hr0, List.length_cons]
          have s1 := Int.emod_nonneg q hr
          have s2 := Int.emod_lt_of_pos q hr0
          have e := Int.mul_ediv_add_emod q r
          have t1 : 1 ≤ q / r := (Int.le_ediv_iff_mul_le hr0).2 (by omega)
          have t2 := le_mul_pos t1 (show 0 ≤ r by omega)
          rw [Int.mul_comm] at t2
          have e2 : (2 : Int) ^ (n + 1) = 2 ^ n * 2 := Int.pow_succ _ _
          have := cfe_short n r (q % r) s1 s2 (by omega)
          omega
theorem cfe_len64 {P Q : Int} (h : cuspI P Q = 0) (hq : 0 < Q) : (cfe P Q).length ≤ 64 := by
  obtain ⟨_, hQ, _⟩ := cuspI_zero.1 h
  have m1 := Int.emod_nonneg P (show Q ≠ 0 by omega)
  have m2 := Int.emod_lt_of_pos P hq
  rw [cfe_next hq, List.length_cons]
  have := cfe_short 30 Q (P % Q) m1 m2 (by have : (2 : Int) ^ 30 = 1073741824 := by decide
                                           omega)
  omega
theorem cfe_ne {P Q : Int} (hq : 0 < Q) : cfe P Q ≠ [] := by rw [cfe_next hq]; simp
theorem cfe_el {P Q : Int} (h : cuspI P Q = 0) (hq : 0 < Q) : ElK (cfe P Q) (cfe P Q).length := by
  obtain ⟨hP, hQ, _⟩ := cuspI_zero.1 h
  obtain ⟨p1, p2⟩ := inE_iff.1 hP
  obtain ⟨f1, f2⟩ := floor_bd hq p1 p2
  have m1 := Int.emod_nonneg P (show Q ≠ 0 by omega)
  have m2 := Int.emod_lt_of_pos P hq
  have key := cfe_pos Q.toNat Q (P % Q) (by omega) m1 m2 hQ
  intro j hj _
  have e := cfe_next (p := P) hq
  have hj2 := hj
  rw [e] at hj2
  have e3 : (cfe P Q)[j] = (P / Q :: cfe Q (P % Q))[j] := by
    congr 1
  rw [e3]
  match j, hj2 with
  | 0, _ => exact ⟨inE_yes f1 f2, fun h => absurd h (by omega)⟩
  | j + 1, hj2 =>
    have := key ((cfe Q (P % Q))[j]'(by simpa using hj2)) (List.getElem_mem _)
    simp only [List.getElem_cons_succ]
    exact ⟨inE_yes (by omega) (by omega), fun _ => this.1⟩
theorem elB_cfe {P Q : Int} (h : cuspI P Q = 0) (hq : 0 < Q) : elB (cfe P Q) = true := elB_yes (cfe_len64 h hq) (cfe_el h hq)

/-- Consecutive convergents: the determinant turns its sign, the denominators do not decrease. -/
def Dets : Int → List (Int × Int) → Prop
  | s, x :: y :: C => x.1 * y.2 - y.1 * x.2 = s ∧ (0 ≤ x.2 ∧ x.2 ≤ y.2 ∨ x.2 = 0) ∧ Dets (-s) (y :: C)
  | _, _ => True
theorem cvg_dets : ∀ (l : List Int) (s bp bq lp lq : Int) (C : List (Int × Int)), (∀ x ∈ l, 1 ≤ x) → 0 ≤ bq → 0 ≤ lq → bp * lq - lp * bq = -s → cvg bp bq lp lq l = some C → Dets s ((lp, lq) :: C)
  | [], s, bp, bq, lp, lq, C, _, _, _, _, h => by cases h; trivial
  | n :: l, s, bp, bq, lp, lq, C, hx, h1, h2, h3, h => by
    by_cases hc : inE (n * lp + bp) = true ∧ inE (n * lq + bq) = true
    · rw [cvg_next hc.1 hc.2] at h
      have hn := hx n List.mem_cons_self
      have e1 := le_mul_pos hn h2
      have e3 : lp * (n * lq + bq) - (n * lp + bp) * lq = s := by
        have : lp * (n * lq + bq) - (n * lp + bp) * lq = -(bp * lq - lp * bq) := by
          rw [Int.mul_add, Int.add_mul, Int.mul_left_comm, Int.mul_assoc n lp lq]; omega
        omega
      cases hC : cvg lp lq (n * lp + bp) (n * lq + bq) l with
      | none => rw [hC] at h; cases h
      | some D =>
        rw [hC] at h
        cases h
        exact ⟨e3, .inl ⟨h2, by show lq ≤ n * lq + bq; omega⟩, cvg_dets l (-s) lp lq _ _ D (fun x hx' => hx x (List.mem_cons_of_mem _ hx')) h2 (by omega) (by omega) hC⟩
    · rw [cvg_large hc] at h; cases h
theorem cvg_len : ∀ (l : List Int) (bp bq lp lq : Int) (C : List (Int × Int)), cvg bp bq lp lq l = some C → C.length = l.length
  | [], _, _, _, _, C, h => by cases h; rfl
  | n :: l, bp, bq, lp, lq, C, h => by
    by_cases hc : inE (n * lp + bp) = true ∧ inE (n * lq + bq) = true
    · rw [cvg_next hc.1 hc.2] at h
      cases hC : cvg lp lq (n * lp + bp) (n * lq + bq) l with
      | none => rw [hC] at h; cases h
      | some D => rw [hC] at h; cases h; simp [cvg_len l _ _ _ _ D hC]
    · rw [cvg_large hc] at h; cases h
theorem cvg_in : ∀ (l : List Int) (bp bq lp lq : Int) (C : List (Int × Int)), cvg bp bq lp lq l = some C → ∀ x ∈ C, inE x.1 = true ∧ inE x.2 = true
  | [], _, _, _, _, C, h => by cases h; intro x hx; cases hx
  | n :: l, bp, bq, lp, lq, C, h => by
    by_cases hc : inE (n * lp + bp) = true ∧ inE (n * lq + bq) = true
    · rw [cvg_next hc.1 hc.2] at h
      cases hC : cvg lp lq (n * lp + bp) (n * lq + bq) l with
      | none => rw [hC] at h; cases h
      | some D =>
        rw [hC] at h; cases h
        intro x hx
        rcases List.mem_cons.1 hx with e | hx
        · subst e; exact hc
        · exact cvg_in l _ _ _ _ D hC x hx
    · rw [cvg_large hc] at h; cases h
end Go.Proofs.Ytbkombklfpjjpaa
