/- Plain mathematics of words in S and T: nearest quotients, the word of a matrix, the value of a word. The contracts of the reference that DetL lacks in this seat. The contract of nearest. Contracts of word and Factor. -/
import Derived.Test.YtilfkppapimocaaMatM
import Derived.Test.YtilfkppapimocaaDetL
import Derived.Test.YtilfkppapimocaaGcdL
import Derived.Test.YtilfkppapimocaaBoxL
import Derived.Deep.Cut
namespace Go.Proofs.Ytilfkppapimocaa

/-- The remainder of a by c that is nearest to 0. -/
def nr (a c : Int) : Int := if (c.natAbs : Int) < 2 * (a % (c.natAbs : Int)) then a % (c.natAbs : Int) - (c.natAbs : Int) else a % (c.natAbs : Int)
def nq (a c : Int) : Int := (a - nr a c) / c
theorem natAbs_dvd_self (c : Int) : (c.natAbs : Int) ∣ c := Int.natAbs_dvd.2 (Int.dvd_refl c)
theorem self_dvd_natAbs (c : Int) : c ∣ (c.natAbs : Int) := Int.dvd_natAbs.2 (Int.dvd_refl c)
theorem nr_spec (a : Int) {c : Int} (hc : c ≠ 0) : -(c.natAbs : Int) < 2 * nr a c ∧ 2 * nr a c ≤ (c.natAbs : Int) ∧ a - nq a c * c = nr a c := by
  have h0 : (0 : Int) < (c.natAbs : Int) := by omega
  have h1 := Int.emod_nonneg a (show (c.natAbs : Int) ≠ 0 by omega)
  have h2 := Int.emod_lt_of_pos a h0
  have hd : c ∣ a - nr a c := by
    have k1 : (c.natAbs : Int) ∣ a - a % (c.natAbs : Int) := Int.dvd_self_sub_emod
    have k2 : c ∣ a - a % (c.natAbs : Int) := Int.dvd_trans (self_dvd_natAbs c) k1
    unfold nr
    split
    · rw [show a - (a % (c.natAbs : Int) - (c.natAbs : Int)) = (a - a % (c.natAbs : Int)) + (c.natAbs : Int) by omega]
      exact Int.dvd_add k2 (self_dvd_natAbs c)
    · exact k2
  refine ⟨?_, ?_, ?_⟩
  · unfold nr; split <;> omega
  · unfold nr; split <;> omega
  · unfold nq
    rw [Int.ediv_mul_cancel hd]
    omega
theorem nr_le (a : Int) {c : Int} (hc : c ≠ 0) : 2 * (nr a c).natAbs ≤ c.natAbs := by
  obtain ⟨h1, h2, _⟩ := nr_spec a hc
  omega
/-- The nearest quotient is the only one with such a remainder. -/
theorem nq_of {a c q r : Int} (hc : c ≠ 0) (h : a - q * c = r) (h1 : -(c.natAbs : Int) < 2 * r) (h2 : 2 * r ≤ (c.natAbs : Int)) : q = nq a c := by
  obtain ⟨k1, k2, k3⟩ := nr_spec a hc
  have e : (nq a c - q) * c = r - nr a c := by rw [Int.sub_mul]; omega
  have h3 : ((nq a c - q) * c).natAbs < c.natAbs := by rw [e]; omega
  rw [Int.natAbs_mul] at h3
  have h4 : (nq a c - q).natAbs = 0 := by
    rcases Nat.eq_zero_or_pos (nq a c - q).natAbs with h4 | h4
    · exact h4
    · have := Nat.mul_le_mul_right c.natAbs (show 1 ≤ (nq a c - q).natAbs from h4)
      omega
  omega
/-- What the code does: the truncated quotient, moved by one where its remainder is too great. -/
theorem tdiv_parts (a c : Int) : a - a.tdiv c * c = a.tmod c := by
  have := Int.mul_tdiv_add_tmod a c
  rw [Int.mul_comm] at this; omega
theorem tmod_bd (a : Int) {c : Int} (hc : c ≠ 0) : (a.tmod c).natAbs < c.natAbs := by
  rw [Int.natAbs_tmod]; exact Nat.mod_lt _ (by omega)
theorem nq_mid {a c : Int} (hc : c ≠ 0) (h1 : -(c.natAbs : Int) < 2 * (a - a.tdiv c * c)) (h2 : 2 * (a - a.tdiv c * c) ≤ (c.natAbs : Int)) : a.tdiv c = nq a c := nq_of hc rfl h1 h2
theorem nq_up {a c : Int} (hc : 0 < c) (h1 : c < 2 * (a - a.tdiv c * c)) : a.tdiv c + 1 = nq a c := by
  have := tmod_bd a (c := c) (by omega)
  have e := tdiv_parts a c
  refine nq_of (r := a.tmod c - c) (by omega) ?_ (by omega) (by omega)
  rw [Int.add_mul]; omega
theorem nq_up' {a c : Int} (hc : c < 0) (h1 : -c < 2 * (a - a.tdiv c * c)) : a.tdiv c + -1 = nq a c := by
  have := tmod_bd a (c := c) (by omega)
  have e := tdiv_parts a c
  refine nq_of (r := a.tmod c + c) (by omega) ?_ (by omega) (by omega)
  rw [Int.add_mul]; omega
theorem nq_down {a c : Int} (hc : 0 < c) (h1 : 2 * (a - a.tdiv c * c) ≤ -c) : a.tdiv c - 1 = nq a c := by
  have := tmod_bd a (c := c) (by omega)
  have e := tdiv_parts a c
  refine nq_of (r := a.tmod c + c) (by omega) ?_ (by omega) (by omega)
  rw [Int.sub_mul]; omega
theorem nq_down' {a c : Int} (hc : c < 0) (h1 : 2 * (a - a.tdiv c * c) ≤ c) : a.tdiv c - -1 = nq a c := by
  have := tmod_bd a (c := c) (by omega)
  have e := tdiv_parts a c
  refine nq_of (r := a.tmod c - c) (by omega) ?_ (by omega) (by omega)
  rw [Int.sub_mul]; omega
theorem nq_le {a c : Int} (hc : c ≠ 0) (ha : a.natAbs ≤ 1073741824) : (nq a c).natAbs ≤ 1073741824 := by
  obtain ⟨k1, k2, k3⟩ := nr_spec a hc
  have h1 : (nq a c).natAbs * c.natAbs = (nq a c * c).natAbs := (Int.natAbs_mul _ _).symm
  have h2 := nr_le a hc
  rcases Nat.lt_or_ge 1 c.natAbs with h | h
  · rcases Nat.lt_or_ge 1073741824 (nq a c).natAbs with k | k
    · have h5 := Nat.mul_le_mul k (show 2 ≤ c.natAbs from h)
      have h6 := Nat.mul_le_mul (show 2 ≤ (nq a c).natAbs by omega) (Nat.le_refl c.natAbs)
      have h7 := Nat.mul_le_mul_right c.natAbs (show 1073741825 ≤ (nq a c).natAbs by omega)
      omega
    · exact k
  · have hc1 : c.natAbs = 1 := by omega
    have : nr a c = 0 := by omega
    rw [hc1, Nat.mul_one] at h1
    omega
/-- The quotient of what is at least twice as great is at least 2. -/
theorem nq_ge {a c : Int} (hc : c ≠ 0) (h : 2 * c.natAbs ≤ a.natAbs) : 2 ≤ (nq a c).natAbs := by
  obtain ⟨k1, k2, k3⟩ := nr_spec a hc
  have h1 : (nq a c).natAbs * c.natAbs = (nq a c * c).natAbs := (Int.natAbs_mul _ _).symm
  have h2 := nr_le a hc
  have h3 : (nq a c * c).natAbs + c.natAbs ≥ 2 * c.natAbs + (c.natAbs - (nr a c).natAbs) := by omega
  rcases Nat.lt_or_ge (nq a c).natAbs 2 with k | k
  · have := Nat.mul_le_mul_right c.natAbs (show (nq a c).natAbs ≤ 1 by omega)
    omega
  · exact k

/-- S^-1 T^-q m for the nearest quotient q. -/
def M.step (m : M) : M := ⟨m.c, m.d, nq m.a m.c * m.c - m.a, nq m.a m.c * m.d - m.b⟩
/-- m S T^n -/
def M.stn (m : M) (n : Int) : M := ⟨m.b, m.b * n - m.a, m.d, m.d * n - m.c⟩
def M.S : M := ⟨0, -1, 1, 0⟩
def M.T (n : Int) : M := ⟨1, n, 0, 1⟩
def M.neg (m : M) : M := ⟨-m.a, -m.b, -m.c, -m.d⟩
theorem M.stn_eq (m : M) (n : Int) : m.stn n = (m.mul M.S).mul (M.T n) := by
  refine M.same ?_ ?_ ?_ ?_ <;> simp [M.stn, M.mul, M.S, M.T] <;> omega
theorem M.step_eq (m : M) : m = ((M.T (nq m.a m.c)).mul M.S).mul m.step := by
  refine M.same ?_ ?_ ?_ ?_ <;> simp [M.step, M.mul, M.S, M.T] <;> omega
theorem M.step_det {m : M} (h : m.det = 1) : m.step.det = 1 := by
  unfold M.det at *
  show m.c * (nq m.a m.c * m.d - m.b) - m.d * (nq m.a m.c * m.c - m.a) = 1
  rw [Int.mul_sub, Int.mul_sub, show m.c * (nq m.a m.c * m.d) = m.d * (nq m.a m.c * m.c) by rw [Int.mul_left_comm, Int.mul_left_comm m.d, Int.mul_comm m.c m.d], Int.mul_comm m.c m.b, Int.mul_comm m.d m.a]
  omega
theorem M.step_c {m : M} (h : m.c ≠ 0) : 2 * m.step.c.natAbs ≤ m.c.natAbs := by
  have h1 := nr_le m.a h
  obtain ⟨_, _, h2⟩ := nr_spec m.a h
  show 2 * (nq m.a m.c * m.c - m.a).natAbs ≤ _
  omega
/-- The entries of the next matrix are within the limits. -/
theorem M.step_ok {m : M} (hc : m.c ≠ 0) (hd : m.det = 1) (h : m.ok = true) : m.step.ok = true := by
  obtain ⟨⟨a1, a2⟩, ⟨b1, b2⟩, ⟨c1, c2⟩, d1, d2⟩ := M.ok_iff.1 h
  have h1 := M.step_c hc
  have h2 := M.step_det hd
  have e1 : m.step.a = m.c := rfl
  have e2 : m.step.b = m.d := rfl
  unfold M.det at h2
  rw [e1, e2] at h2
  have h3 : m.c.natAbs * m.step.d.natAbs = (m.c * m.step.d).natAbs := (Int.natAbs_mul _ _).symm
  have h4 : m.d.natAbs * m.step.c.natAbs = (m.d * m.step.c).natAbs := (Int.natAbs_mul _ _).symm
  have h5 : m.d.natAbs * (2 * m.step.c.natAbs) ≤ 1073741824 * m.c.natAbs := Nat.mul_le_mul (by omega) h1
  have h6 : m.step.d.natAbs ≤ 1073741824 := by
    rcases Nat.lt_or_ge 1073741824 m.step.d.natAbs with k | k
    · have h7 := Nat.mul_le_mul_left m.c.natAbs (show 1073741825 ≤ m.step.d.natAbs from k)
      rw [Nat.mul_left_comm] at h5
      omega
    · exact k
  refine M.ok_iff.2 ⟨⟨c1, c2⟩, ⟨d1, d2⟩, ?_, ?_⟩ <;> omega
/-- The exponents of the word of a matrix. -/
def wl : Nat → M → List Int
  | 0, _ => []
  | f + 1, m => if m.c = 0 then [m.a * m.b] else nq m.a m.c :: wl f m.step
/-- Whether it is negative. -/
def wn : Nat → M → Bool
  | 0, _ => false
  | f + 1, m => if m.c = 0 then decide (m.a < 0) else wn f m.step
theorem wl_last {f : Nat} {m : M} (h : m.c = 0) : wl (f + 1) m = [m.a * m.b] := if_pos h
theorem wl_next {f : Nat} {m : M} (h : m.c ≠ 0) : wl (f + 1) m = nq m.a m.c :: wl f m.step := if_neg h
theorem wn_last {f : Nat} {m : M} (h : m.c = 0) : wn (f + 1) m = decide (m.a < 0) := if_pos h
theorem wn_next {f : Nat} {m : M} (h : m.c ≠ 0) : wn (f + 1) m = wn f m.step := if_neg h
theorem wl_len : ∀ (f : Nat) (m : M), (wl f m).length ≤ f
  | 0, _ => Nat.le_refl _
  | f + 1, m => by
    by_cases h : m.c = 0
    · rw [wl_last h]; simp
    · rw [wl_next h, List.length_cons]; exact Nat.succ_le_succ (wl_len f _)
/-- A matrix on the way: of determinant 1, within the limits, with enough rounds left. -/
structure Way (f : Nat) (m : M) : Prop where
  det : m.det = 1
  ok : m.ok = true
  few : 2 * m.c.natAbs + 1 < 2 ^ f
theorem Way.start {m : M} (hd : m.det = 1) (h : m.ok = true) : Way 32 m := ⟨hd, h, by
  obtain ⟨_, _, ⟨c1, c2⟩, _⟩ := M.ok_iff.1 h
  have e : (2 : Nat) ^ 32 = 4294967296 := by decide
  rw [e]; omega⟩
theorem Way.pos {f : Nat} {m : M} (h : Way f m) : ∃ g, f = g + 1 := by
  cases f with
  | zero => have := h.few; have e : (2 : Nat) ^ 0 = 1 := rfl; omega
  | succ g => exact ⟨g, rfl⟩
theorem Way.next {f : Nat} {m : M} (h : Way (f + 1) m) (hc : m.c ≠ 0) : Way f m.step := by
  refine ⟨M.step_det h.det, M.step_ok hc h.det h.ok, ?_⟩
  have h1 := M.step_c hc
  have h2 := h.few
  rw [Nat.pow_succ] at h2
  cases f with
  | zero => have e : (2 : Nat) ^ 0 = 1 := rfl; omega
  | succ g => rw [Nat.pow_succ] at h2 ⊢; omega
/-- Where the lower left entry is 0, the matrix is T^n or -T^n. -/
theorem M.last {m : M} (hd : m.det = 1) (hc : m.c = 0) : (m.a = 1 ∧ m.d = 1) ∨ (m.a = -1 ∧ m.d = -1) := by
  unfold M.det at hd
  rw [hc, Int.mul_zero, Int.sub_zero] at hd
  have h1 : m.a.natAbs * m.d.natAbs = 1 := by rw [← Int.natAbs_mul, hd]; rfl
  have h2 := Nat.eq_one_of_mul_eq_one_right h1
  have h3 := Nat.eq_one_of_mul_eq_one_left h1
  rcases (show m.a = 1 ∨ m.a = -1 by omega) with h | h
  · rw [h] at hd; exact .inl ⟨h, by omega⟩
  · rw [h] at hd; exact .inr ⟨h, by omega⟩
theorem wl_in : ∀ (f : Nat) (m : M), Way f m → ∀ x ∈ wl f m, inE x = true
  | 0, m, _, x, hx => by cases hx
  | f + 1, m, h, x, hx => by
    obtain ⟨⟨a1, a2⟩, ⟨b1, b2⟩, _⟩ := M.ok_iff.1 h.ok
    by_cases hc : m.c = 0
    · rw [wl_last hc] at hx
      have : x = m.a * m.b := by simpa using hx
      rw [this]
      rcases M.last h.det hc with ⟨k, _⟩ | ⟨k, _⟩
      · rw [k, Int.one_mul]; exact inE_yes b1 b2
      · rw [k]; exact inE_yes (by omega) (by omega)
    · rw [wl_next hc] at hx
      rcases List.mem_cons.1 hx with k | k
      · rw [k]
        have := nq_le hc (show m.a.natAbs ≤ 1073741824 by omega)
        exact inE_yes (by omega) (by omega)
      · exact wl_in f m.step (h.next hc) x k
theorem wl_cons {f : Nat} {m : M} (h : Way f m) : ∃ e l, wl f m = e :: l := by
  obtain ⟨g, rfl⟩ := h.pos
  by_cases hc : m.c = 0
  · exact ⟨_, _, wl_last hc⟩
  · exact ⟨_, _, wl_next hc⟩

/-- The value of the rest of a word, if no product on the way is too great. -/
def vgo : M → List Int → Option M
  | m, [] => some m
  | m, n :: l => if (m.stn n).ok then vgo (m.stn n) l else none
/-- The value of the rest of a word. -/
def vprod : M → List Int → M
  | m, [] => m
  | m, n :: l => vprod (m.stn n) l
theorem vgo_prod : ∀ (l : List Int) (m r : M), vgo m l = some r → r = vprod m l
  | [], m, r, h => by simpa [vgo, vprod] using h.symm
  | n :: l, m, r, h => by
    unfold vgo at h
    split at h
    · exact vgo_prod l _ r h
    · cases h
theorem big {x y p r : Int} (h1 : y.natAbs ≤ x.natAbs) (h2 : 2 * r.natAbs ≤ p.natAbs) (hp : p ≠ 0) : x.natAbs ≤ (x * p - y * r).natAbs := by
  have e1 : x.natAbs * p.natAbs = (x * p).natAbs := (Int.natAbs_mul _ _).symm
  have e2 : y.natAbs * r.natAbs = (y * r).natAbs := (Int.natAbs_mul _ _).symm
  have e3 : y.natAbs * r.natAbs ≤ x.natAbs * r.natAbs := Nat.mul_le_mul_right _ h1
  have e4 : x.natAbs * (1 + r.natAbs) ≤ x.natAbs * p.natAbs := Nat.mul_le_mul_left _ (by omega)
  rw [Nat.mul_add, Nat.mul_one] at e4
  omega
/-- What holds of the product P of a word's beginning and the rest m' of the matrix m. -/
structure Inv (P m' m : M) : Prop where
  det : P.det = 1
  low : P.c.natAbs ≤ P.d.natAbs
  up : P.a.natAbs ≤ P.b.natAbs ∨ P.b = 0
  ne : m'.a ≠ 0
  far : 2 * m'.c.natAbs ≤ m'.a.natAbs
  eq : (P.mul M.S).mul m' = m
theorem Inv.ok {P m' m : M} (h : Inv P m' m) (hm : m.ok = true) : P.ok = true := by
  obtain ⟨⟨a1, a2⟩, _, ⟨c1, c2⟩, _⟩ := M.ok_iff.1 hm
  have hc : m.c = P.d * m'.a - P.c * m'.c := by rw [← h.eq]; simp [M.mul, M.S, Int.neg_mul]; omega
  have ha : m.a = P.b * m'.a - P.a * m'.c := by rw [← h.eq]; simp [M.mul, M.S, Int.neg_mul]; omega
  have k1 := big h.low h.far h.ne
  rw [← hc] at k1
  have k2 := h.low
  rcases h.up with k | k
  · have k3 := big k h.far h.ne
    rw [← ha] at k3
    refine M.ok_iff.2 ⟨?_, ?_, ?_, ?_⟩ <;> omega
  · have hd := h.det
    unfold M.det at hd
    rw [k, Int.zero_mul, Int.sub_zero] at hd
    have h1 : P.a.natAbs * P.d.natAbs = 1 := by rw [← Int.natAbs_mul, hd]; rfl
    have h2 := Nat.eq_one_of_mul_eq_one_right h1
    refine M.ok_iff.2 ⟨?_, ?_, ?_, ?_⟩ <;> omega
theorem M.stn_det {P : M} (h : P.det = 1) (n : Int) : (P.stn n).det = 1 := by
  rw [M.stn_eq, M.det_mul, M.det_mul, h]; simp [M.det, M.S, M.T]
theorem Inv.next {P m' m : M} (h : Inv P m' m) (hc : m'.c ≠ 0) : Inv (P.stn (nq m'.a m'.c)) m'.step m := by
  have hq := nq_ge hc h.far
  have hcc := M.step_c hc
  refine ⟨M.stn_det h.det _, ?_, .inl ?_, hc, hcc, ?_⟩
  · have k := big (x := P.d) (y := P.c) (p := nq m'.a m'.c) (r := 1) h.low (by simpa using hq) (by omega)
    rw [Int.mul_one] at k
    exact k
  · rcases h.up with k0 | k0
    · have k := big (x := P.b) (y := P.a) (p := nq m'.a m'.c) (r := 1) k0 (by simpa using hq) (by omega)
      rw [Int.mul_one] at k
      exact k
    · show P.b.natAbs ≤ _
      rw [k0]; exact Nat.zero_le _
  · rw [M.stn_eq, M.mul_assoc, M.mul_assoc]
    have e := M.step_eq m'
    rw [M.mul_assoc] at e
    rw [← e]; exact h.eq
theorem M.neg_ok {m : M} (h : m.ok = true) : m.neg.ok = true := by
  obtain ⟨⟨a1, a2⟩, ⟨b1, b2⟩, ⟨c1, c2⟩, d1, d2⟩ := M.ok_iff.1 h
  refine M.ok_iff.2 ⟨?_, ?_, ?_, ?_⟩ <;> (show _ ≤ -_ ∧ -_ ≤ _; omega)
theorem M.neg_neg (m : M) : m.neg.neg = m := by refine M.same ?_ ?_ ?_ ?_ <;> simp [M.neg]
theorem last_val {P m' m : M} (h : Inv P m' m) (hd : m'.det = 1) (hc : m'.c = 0) : (if decide (m'.a < 0) then (P.stn (m'.a * m'.b)).neg else P.stn (m'.a * m'.b)) = m := by
  have e := h.eq
  rcases M.last hd hc with ⟨k1, k2⟩ | ⟨k1, k2⟩
  · rw [k1]
    rw [if_neg (by decide), ← e]
    refine M.same ?_ ?_ ?_ ?_ <;> simp [M.stn, M.mul, M.S, k1, k2, hc] <;> omega
  · rw [k1]
    rw [if_pos (by decide), ← e]
    refine M.same ?_ ?_ ?_ ?_ <;> simp [M.stn, M.mul, M.S, M.neg, k1, k2, hc, Int.mul_neg] <;> omega
theorem vgo_wl (m : M) (hm : m.ok = true) : ∀ (f : Nat) (P m' : M), Way f m' → Inv P m' m → ∃ R, vgo P (wl f m') = some R ∧ (if wn f m' then R.neg else R) = m
  | 0, P, m', h, _ => by obtain ⟨g, hg⟩ := h.pos; cases hg
  | f + 1, P, m', h, hi => by
    by_cases hc : m'.c = 0
    · rw [wl_last hc, wn_last hc]
      have hl := last_val hi h.det hc
      refine ⟨P.stn (m'.a * m'.b), ?_, hl⟩
      have ho : (P.stn (m'.a * m'.b)).ok = true := by
        cases hs : decide (m'.a < 0) with
        | true => rw [hs, if_pos rfl] at hl; rw [← hl] at hm; have := M.neg_ok hm; rwa [M.neg_neg] at this
        | false => rw [hs, if_neg (by simp)] at hl; rw [← hl] at hm; exact hm
      unfold vgo; rw [if_pos ho]; rfl
    · rw [wl_next hc, wn_next hc]
      have hi' := hi.next hc
      unfold vgo
      rw [if_pos (hi'.ok hm)]
      exact vgo_wl m hm f _ _ (h.next hc) hi'
/-- The answer of Value. -/
def valE (n : Bool) (l : List Int) : M × Int :=
  match l with
  | [] => (.zero, 3)
  | e :: r => if 200 < (e :: r).length then (.zero, 2) else if (e :: r).all inE = false then (.zero, 2) else
    match vgo (M.T e) r with
    | none => (.zero, 7)
    | some m => (if n then m.neg else m, 0)
theorem valE_nil (n : Bool) : valE n [] = (.zero, 3) := rfl
theorem valE_long {n : Bool} {e : Int} {r : List Int} (h : 200 < (e :: r).length) : valE n (e :: r) = (.zero, 2) := if_pos h
theorem valE_out {n : Bool} {e : Int} {r : List Int} (h : (e :: r).length ≤ 200) (k : (e :: r).all inE = false) : valE n (e :: r) = (.zero, 2) := by
  unfold valE; dsimp only; rw [if_neg (by omega), if_pos k]
theorem valE_none {n : Bool} {e : Int} {r : List Int} (h : (e :: r).length ≤ 200) (k : (e :: r).all inE = true) (hv : vgo (M.T e) r = none) : valE n (e :: r) = (.zero, 7) := by
  unfold valE; dsimp only; rw [if_neg (by omega), if_neg (by rw [k]; simp), hv]
theorem valE_some {n : Bool} {e : Int} {r : List Int} {m : M} (h : (e :: r).length ≤ 200) (k : (e :: r).all inE = true) (hv : vgo (M.T e) r = some m) : valE n (e :: r) = (if n then m.neg else m, 0) := by
  unfold valE; dsimp only; rw [if_neg (by omega), if_neg (by rw [k]; simp), hv]
/-- What the word of a matrix stands for. -/
theorem word_prod {m : M} (hd : m.det = 1) (hm : m.ok = true) : ∃ e r R, wl 32 m = e :: r ∧ vgo (M.T e) r = some R ∧ (if wn 32 m then R.neg else R) = m := by
  have h := Way.start hd hm
  by_cases hc : m.c = 0
  · refine ⟨m.a * m.b, [], M.T (m.a * m.b), wl_last hc, rfl, ?_⟩
    rw [wn_last hc]
    rcases M.last hd hc with ⟨k1, k2⟩ | ⟨k1, k2⟩
    · rw [k1, if_neg (by decide)]
      refine M.same ?_ ?_ ?_ ?_ <;> simp [M.T, k1, k2, hc]
    · rw [k1, if_pos (by decide)]
      refine M.same ?_ ?_ ?_ ?_ <;> simp [M.T, M.neg, k1, k2, hc]
  · obtain ⟨R, h1, h2⟩ := vgo_wl m hm 31 (M.T (nq m.a m.c)) m.step (h.next hc) ⟨by simp [M.det, M.T], by simp [M.T], by
      by_cases k : nq m.a m.c = 0
      · exact .inr k
      · left; show (1 : Int).natAbs ≤ (nq m.a m.c).natAbs; have : (1 : Int).natAbs = 1 := rfl; omega, hc, M.step_c hc, (M.step_eq m).symm⟩
    exact ⟨_, _, R, wl_next hc, h1, by rw [wn_next hc]; exact h2⟩
theorem value_word {m : M} (hd : m.det = 1) (hm : m.ok = true) : valE (wn 32 m) (wl 32 m) = (m, 0) := by
  obtain ⟨e, r, R, h1, h2, h3⟩ := word_prod hd hm
  have hl := wl_len 32 m
  have hi : (wl 32 m).all inE = true := List.all_eq_true.2 (wl_in 32 m (Way.start hd hm))
  rw [h1] at hl hi ⊢
  rw [valE_some (by omega) hi h2, h3]
end Go.Proofs.Ytilfkppapimocaa
namespace Go.Proofs.Ytilfkppapimocaa
open Go.RowKit
set_option linter.unusedVariables false

set_option maxHeartbeats 800000 in
theorem rdet_no (a b c d : Int) (w : World) (h : fitB a b c d = false) : Calls Try.prog 63 #[.agg #[.int .i64 a, .int .i64 b, .int .i64 c, .int .i64 d]] w fun e w' => e = .returned (.tuple #[.int .i64 0, .int .i64 2]) ∧ Below w.heap.size w w' := by
  have HE := Lib.hid (fun W => rFits_any a b c d W)
  rw [h] at HE
  clear h
  go_enter Try.func63, Try.ntmps63
  go_wp2_with (go_at_call 74; ((with_reducible refine (HE.out _).mono ?_); rintro e w' ⟨rfl, hb⟩; have HB := Lib.hid hb; clear hb))
  go_ret2
  exact ⟨rfl, ((Below.refl _ _).alloc (Nat.le_refl _) _).trans (HB.out.mono (by simp))⟩
set_option maxHeartbeats 800000 in
theorem rdet_yes (a b c d : Int) (w : World) (h : fitB a b c d = true) : Calls Try.prog 63 #[.agg #[.int .i64 a, .int .i64 b, .int .i64 c, .int .i64 d]] w fun e w' => e = .returned (.tuple #[.int .i64 (a * d - b * c), .int .i64 0]) ∧ Below w.heap.size w w' := by
  have HE := Lib.hid (fun W => rFits_any a b c d W)
  rw [h] at HE
  obtain ⟨⟨a1, a2⟩, ⟨b1, b2⟩, ⟨c1, c2⟩, d1, d2⟩ := fitB_iff.1 h
  clear h
  obtain ⟨p1, p2⟩ := prod_le a1 a2 d1 d2
  obtain ⟨q1, q2⟩ := prod_le b1 b2 c1 c2
  go_enter Try.func63, Try.ntmps63
  go_wp2_with (go_at_call 74; ((with_reducible refine (HE.out _).mono ?_); rintro e w' ⟨rfl, hb⟩; obtain ⟨hc, hf⟩ := bcell hb; have HB := Lib.hid hb; clear hb))
  go_ret2
  exact ⟨rfl, ((Below.refl _ _).alloc (Nat.le_refl _) _).trans (HB.out.mono (by simp))⟩

theorem rdet_any (a b c d z k : Int) (w : World) (hz : detE a b c d = (z, k)) : Calls Try.prog 63 #[.agg #[.int .i64 a, .int .i64 b, .int .i64 c, .int .i64 d]] w fun e w' => e = .returned (.tuple #[.int .i64 z, .int .i64 k]) ∧ Below w.heap.size w w' := by
  cases h : fitB a b c d with
  | false =>
    rw [detE_no h] at hz
    cases hz
    exact rdet_no a b c d w h
  | true =>
    rw [detE_yes h] at hz
    cases hz
    exact rdet_yes a b c d w h
set_option maxHeartbeats 800000 in
theorem rcheck_any (a b c d : Int) (w : World) : Calls Try.prog 36 #[.agg #[.int .i64 a, .int .i64 b, .int .i64 c, .int .i64 d]] w fun e w' => e = .returned (.int .i64 (chkI a b c d)) ∧ Below w.heap.size w w' := by
  rcases chk_cases a b c d with ⟨h, k⟩ | ⟨h, h1, k⟩ | ⟨h, h1, k⟩
  · have HE := Lib.hid (fun W => rdet_no a b c d W h)
    rw [k]
    clear h k
    go_enter Try.func36, Try.ntmps36
    go_wp2_with (go_at_call 63; ((with_reducible refine (HE.out _).mono ?_); rintro e w' ⟨rfl, hb⟩; have HB := Lib.hid hb; clear hb))
    go_ret
    exact ⟨rfl, ((Below.refl _ _).alloc (Nat.le_refl _) _).trans (HB.out.mono (by simp))⟩
  · have HE := Lib.hid (fun W => rdet_yes a b c d W h)
    rw [h1] at HE
    rw [k]
    clear h k h1
    go_enter Try.func36, Try.ntmps36
    go_wp2_with (go_at_call 63; ((with_reducible refine (HE.out _).mono ?_); rintro e w' ⟨rfl, hb⟩; have HB := Lib.hid hb; clear hb))
    go_ret
    exact ⟨rfl, ((Below.refl _ _).alloc (Nat.le_refl _) _).trans (HB.out.mono (by simp))⟩
  · have HE := Lib.hid (fun W => rdet_yes a b c d W h)
    rw [k]
    generalize a * d - b * c = z at *
    have hz : (z != 1) = true := by simpa using h1
    clear h k h1
    go_enter Try.func36, Try.ntmps36
    go_wp2_with (go_at_call 63; ((with_reducible refine (HE.out _).mono ?_); rintro e w' ⟨rfl, hb⟩; have HB := Lib.hid hb; clear hb))
    go_ret
    exact ⟨rfl, ((Below.refl _ _).alloc (Nat.le_refl _) _).trans (HB.out.mono (by simp))⟩

set_option maxHeartbeats 1600000 in
theorem times_yes (a b c d a' b' c' d' : Int) (w : World) (h : fitB a b c d = true) (k : fitB a' b' c' d' = true) :
    Calls Try.prog 51 #[.agg #[.int .i64 a, .int .i64 b, .int .i64 c, .int .i64 d], .agg #[.int .i64 a', .int .i64 b', .int .i64 c', .int .i64 d']] w fun e w' =>
      e = .returned (.agg #[.int .i64 (a * a' + b * c'), .int .i64 (a * b' + b * d'), .int .i64 (c * a' + d * c'), .int .i64 (c * b' + d * d')]) ∧ Below w.heap.size w w' := by
  obtain ⟨⟨a1, a2⟩, ⟨b1, b2⟩, ⟨c1, c2⟩, d1, d2⟩ := fitB_iff.1 h
  obtain ⟨⟨x1, x2⟩, ⟨y1, y2⟩, ⟨z1, z2⟩, t1, t2⟩ := fitB_iff.1 k
  clear h k
  obtain ⟨p1, p2⟩ := prod_le a1 a2 x1 x2
  obtain ⟨p3, p4⟩ := prod_le b1 b2 z1 z2
  obtain ⟨p5, p6⟩ := prod_le a1 a2 y1 y2
  obtain ⟨p7, p8⟩ := prod_le b1 b2 t1 t2
  obtain ⟨q1, q2⟩ := prod_le c1 c2 x1 x2
  obtain ⟨q3, q4⟩ := prod_le d1 d2 z1 z2
  obtain ⟨q5, q6⟩ := prod_le c1 c2 y1 y2
  obtain ⟨q7, q8⟩ := prod_le d1 d2 t1 t2
  go_enter Try.func51, Try.ntmps51
  go_wp2
  refine bodyPost_ret (v := .agg #[.int .i64 (a * a' + b * c'), .int .i64 (a * b' + b * d'), .int .i64 (c * a' + d * c'), .int .i64 (c * b' + d * d')]) ?_ rfl ⟨rfl, ?_⟩
  · simp [results, Try.results51, go_sem]
  exact below3 _ _ _ _
set_option maxHeartbeats 800000 in
theorem back_any (a b c d : Int) (w : World) (h : fitB a b c d = true) :
    Calls Try.prog 52 #[.agg #[.int .i64 a, .int .i64 b, .int .i64 c, .int .i64 d]] w fun e w' =>
      e = .returned (.agg #[.int .i64 d, .int .i64 (-b), .int .i64 (-c), .int .i64 a]) ∧ Below w.heap.size w w' := by
  obtain ⟨⟨a1, a2⟩, ⟨b1, b2⟩, ⟨c1, c2⟩, d1, d2⟩ := fitB_iff.1 h
  clear h
  go_enter Try.func52, Try.ntmps52
  go_wp2
  refine bodyPost_ret (v := .agg #[.int .i64 d, .int .i64 (-b), .int .i64 (-c), .int .i64 a]) ?_ rfl ⟨rfl, ?_⟩
  · simp [results, Try.results52, go_sem]
  exact below2 _ _ _
end Go.Proofs.Ytilfkppapimocaa
namespace Go.Proofs.Ytilfkppapimocaa
open Go.RowKit

theorem tdiv_le (a c : Int) : (a.tdiv c).natAbs ≤ a.natAbs := by rw [Int.natAbs_tdiv]; exact Nat.div_le_self _ _
theorem tdiv_bd {a : Int} (c : Int) (h1 : -1073741824 ≤ a) (h2 : a ≤ 1073741824) : -1073741824 ≤ a.tdiv c ∧ a.tdiv c ≤ 1073741824 := by
  have := tdiv_le a c; omega
set_option maxHeartbeats 1600000 in
theorem nearest_pos (a c : Int) (w : World) (a1 : -1073741824 ≤ a) (a2 : a ≤ 1073741824) (c1 : 0 < c) (c2 : c ≤ 1073741824) :
    Calls Try.prog 79 #[.int .i64 a, .int .i64 c] w fun e w' => e = .returned (.int .i64 (nq a c)) ∧ w = w' := by
  have HU := Lib.hid (@nq_up a c c1)
  have HD := Lib.hid (@nq_down a c c1)
  have HM := Lib.hid (@nq_mid a c (by omega))
  obtain ⟨q1, q2⟩ := tdiv_bd c a1 a2
  obtain ⟨m1, m2⟩ := prod_le q1 q2 (show -1073741824 ≤ c by omega) c2
  have hn := Int.natAbs_of_nonneg (show 0 ≤ c by omega)
  have t1 := tmod_bd a (c := c) (by omega)
  have t2 := tdiv_parts a c
  have r1 : -1073741824 ≤ a - a.tdiv c * c := by omega
  have r2 : a - a.tdiv c * c ≤ 1073741824 := by omega
  have hs : c.tdiv c = 1 := Int.tdiv_self (by omega)
  have HS := Lib.hid hs
  rw [hn] at HM
  have hc0 : (c == 0) = false := by rw [beq_eq_false_iff_ne]; omega
  clear t1 t2 hn hs
  generalize nq a c = z at *
  go_enter Try.func79, Try.ntmps79
  go_wp2
  · have h : c < 2 * (a - a.tdiv c * c) := by assumption
    go_ret
    exact ⟨ret_int (by rw [Int.ediv_self (by omega), IntWalk.wrap64_in _ (by omega)]; exact HU.out h), rfl⟩
  · have h : 2 * (a - a.tdiv c * c) ≤ -c := by assumption
    go_ret
    exact ⟨ret_int (by rw [Int.ediv_self (by omega), IntWalk.wrap64_in _ (by omega)]; exact HD.out h), rfl⟩
  · have h : 2 * (a - a.tdiv c * c) ≤ c := by assumption
    have k : -c < 2 * (a - a.tdiv c * c) := by assumption
    go_ret
    exact ⟨ret_int (HM.out k h), rfl⟩
set_option maxHeartbeats 1600000 in
theorem nearest_neg (a c : Int) (w : World) (a1 : -1073741824 ≤ a) (a2 : a ≤ 1073741824) (c1 : -1073741824 ≤ c) (c2 : c < 0) :
    Calls Try.prog 79 #[.int .i64 a, .int .i64 c] w fun e w' => e = .returned (.int .i64 (nq a c)) ∧ w = w' := by
  have HU := Lib.hid (@nq_up' a c c2)
  have HD := Lib.hid (@nq_down' a c c2)
  have HM := Lib.hid (@nq_mid a c (by omega))
  obtain ⟨q1, q2⟩ := tdiv_bd c a1 a2
  obtain ⟨m1, m2⟩ := prod_le q1 q2 c1 (show c ≤ 1073741824 by omega)
  have hn : (c.natAbs : Int) = -c := by omega
  have t1 := tmod_bd a (c := c) (by omega)
  have t2 := tdiv_parts a c
  have r1 : -1073741824 ≤ a - a.tdiv c * c := by omega
  have r2 : a - a.tdiv c * c ≤ 1073741824 := by omega
  rw [hn] at HM
  have hc0 : (c == 0) = false := by rw [beq_eq_false_iff_ne]; omega
  clear t1 t2 hn
  generalize nq a c = z at *
  go_enter Try.func79, Try.ntmps79
  go_wp2
  · have h : -c < 2 * (a - a.tdiv c * c) := by assumption
    go_ret
    exact ⟨ret_int (by rw [Int.tdiv_self (by omega), show wrap64 (-1) = -1 from IntWalk.wrap64_in _ (by omega), IntWalk.wrap64_in _ (by omega)]; exact HU.out h), rfl⟩
  · have h : 2 * (a - a.tdiv c * c) ≤ c := by assumption
    go_ret
    exact ⟨ret_int (by rw [Int.tdiv_self (by omega), show wrap64 (-1) = -1 from IntWalk.wrap64_in _ (by omega), IntWalk.wrap64_in _ (by omega)]; exact HD.out h), rfl⟩
  · have h : 2 * (a - a.tdiv c * c) ≤ -c := by assumption
    have k : c < 2 * (a - a.tdiv c * c) := by assumption
    go_ret
    exact ⟨ret_int (HM.out (by omega) h), rfl⟩
theorem nearest_any (a c : Int) (w : World) (a1 : -1073741824 ≤ a) (a2 : a ≤ 1073741824) (c1 : -1073741824 ≤ c) (c2 : c ≤ 1073741824) (hc : c ≠ 0) :
    Calls Try.prog 79 #[.int .i64 a, .int .i64 c] w fun e w' => e = .returned (.int .i64 (nq a c)) ∧ w = w' := by
  rcases Int.lt_or_gt_of_ne hc with h | h
  · exact nearest_neg a c w a1 a2 c1 h
  · exact nearest_pos a c w a1 a2 h c2
end Go.Proofs.Ytilfkppapimocaa
namespace Go.Proofs.Ytilfkppapimocaa
open Go.RowKit

/-- The world on the way: the matrix' box B, the result's box B + 1, the word's box g with its list. -/
structure WS (B g : Nat) (w0 wr : World) (m : M) (n : Bool) (v : Value) (L : List Int) : Prop where
  mat : wr.heap[B]? = some (.cells #[.int .i64 m.a, .int .i64 m.b, .int .i64 m.c, .int .i64 m.d] 26 (0, 0))
  res : wr.heap[B + 1]? = some (.cells #[.bool false, .slice none 0 0] 85 (0, 0))
  var : wr.heap[g]? = some (.cells #[.bool n, v] 85 (0, 0))
  own : wr.ownsRow (g + 1) 3 1 v L.length (zs L)
  bel : Below B w0 wr
  hg : B + 2 ≤ g
theorem WS.size {B g : Nat} {w0 wr : World} {m : M} {n : Bool} {v : Value} {L : List Int} (h : WS B g w0 wr m n v L) : g + 1 ≤ wr.heap.size := lt_of_block h.var
/-- Behind the append of an exponent and the store of the list. -/
theorem WS.app {B g : Nat} {w0 wr w3 : World} {m : M} {n : Bool} {v v' : Value} {L : List Int} {x : Int} {o : Obj} (h : WS B g w0 wr m n v L)
    (hown' : w3.ownsRow (g + 1) 3 1 v' (L.length + 1) (zs L ++ [.int .i64 x])) (hg : (wr.alloc o).grownBy w3 v.ownBlock) :
    WS B g w0 (w3.setCell ⟨g, 1, none⟩ v') m n v' (L ++ [x]) := by
  have hg2 := h.hg
  refine ⟨set_ne (block_grown h.mat h.own (by omega) hg) (by omega) _, set_ne (block_grown h.res h.own (by omega) hg) (by omega) _, two_set1 (block_grown h.var h.own (by omega) hg) _, ?_, ?_, hg2⟩
  · rw [List.length_append, zs_append]; exact own_set hown' (by omega) _
  · refine Below.setCell ?_ (by show B ≤ g; omega) _
    refine (h.bel.alloc (by have := h.size; omega) o).grown hg (by have := h.size; simp; omega) (fun j hj => ?_)
    have := (h.own.lt j hj).1
    omega
/-- Behind the store of the next matrix. -/
theorem WS.mat4 {B g : Nat} {w0 wr : World} {m : M} {n : Bool} {v : Value} {L : List Int} (h : WS B g w0 wr m n v L) (a b c d : Int) :
    WS B g w0 ((((wr.setCell ⟨B, 0, none⟩ (.int .i64 a)).setCell ⟨B, 1, none⟩ (.int .i64 b)).setCell ⟨B, 2, none⟩ (.int .i64 c)).setCell ⟨B, 3, none⟩ (.int .i64 d)) ⟨a, b, c, d⟩ n v L := by
  have hg2 := h.hg
  exact ⟨four_set h.mat _ _ _ _, set4_ne h.res (by omega) _ _ _ _, set4_ne h.var (by omega) _ _ _ _, own_set4 h.own (by omega) _ _ _ _, below_set4 h.bel (Nat.le_refl _) _ _ _ _, hg2⟩
theorem WS.start (w : World) (m : M) : WS w.heap.size (w.heap.size + 1 + 1) w (((w.alloc (.cells #[.int .i64 m.a, .int .i64 m.b, .int .i64 m.c, .int .i64 m.d] 26)).alloc (.cells #[.bool false, .slice none 0 0] 85)).alloc (.cells #[.bool false, .slice none 0 0] 85)) m false (.slice none 0 0) [] := by
  have e1 : (w.alloc (.cells #[.int .i64 m.a, .int .i64 m.b, .int .i64 m.c, .int .i64 m.d] 26)).heap.size = w.heap.size + 1 := by simp
  refine ⟨block_alloc (block_alloc (heap_alloc_new w _) _) _, block_alloc ?_ _, ?_, World.ownsRow_nil _ _ _ _, below3 _ _ _ _, by omega⟩
  · have := heap_alloc_new (w.alloc (.cells #[.int .i64 m.a, .int .i64 m.b, .int .i64 m.c, .int .i64 m.d] 26)) (.cells #[.bool false, .slice none 0 0] 85)
    rwa [e1] at this
  · have := heap_alloc_new ((w.alloc (.cells #[.int .i64 m.a, .int .i64 m.b, .int .i64 m.c, .int .i64 m.d] 26)).alloc (.cells #[.bool false, .slice none 0 0] 85)) (.cells #[.bool false, .slice none 0 0] 85)
    rwa [World.size_alloc, e1] at this
/-- Behind the store of the sign. -/
theorem WS.neg {B g : Nat} {w0 wr : World} {m : M} {n : Bool} {v : Value} {L : List Int} (h : WS B g w0 wr m n v L) (b : Bool) : WS B g w0 (wr.setCell ⟨g, 0, none⟩ (.bool b)) m b v L := by
  have hg2 := h.hg
  exact ⟨set_ne h.mat (by omega) _, set_ne h.res (by omega) _, two_set0 h.var _, own_set h.own (by omega) _, h.bel.setCell (by show B ≤ g; omega) _, hg2⟩
theorem nq_bd {a c : Int} (hc : c ≠ 0) (h1 : -1073741824 ≤ a) (h2 : a ≤ 1073741824) : -1073741824 ≤ nq a c ∧ nq a c ≤ 1073741824 := by
  have := nq_le hc (show a.natAbs ≤ 1073741824 by omega)
  omega

set_option maxHeartbeats 3200000 in
set_option maxRecDepth 1000000 in
theorem word_any (a b c d : Int) (w : World) (hd : (M.mk a b c d).det = 1) (ho : (M.mk a b c d).ok = true) :
    Calls Try.prog 69 #[.agg #[.int .i64 a, .int .i64 b, .int .i64 c, .int .i64 d]] w fun e w' => ∃ v, e = .returned (.agg #[.bool (wn 32 ⟨a, b, c, d⟩), v]) ∧
      w'.ownsRow w.heap.size 3 1 v (wl 32 ⟨a, b, c, d⟩).length (zs (wl 32 ⟨a, b, c, d⟩)) ∧ Below w.heap.size w w' := by
  obtain ⟨i0, hi, hz0, hz1, hz2⟩ := info_parts Try.infoInt
  have HW := Lib.hid (Way.start hd ho)
  clear hd ho
  go_enter Try.func69, Try.ntmps69
  go_wp2
  go_loopw [4] (fun _ wr => ∃ (f : Nat) (m : M) (v : Value) (L : List Int), Hid (WS w.heap.size (w.heap.size + 1 + 1) w wr m false v L) ∧ Hid (Way f m) ∧ Hid (L ++ wl f m = wl 32 ⟨a, b, c, d⟩) ∧ Hid (wn f m = wn 32 ⟨a, b, c, d⟩) ∧ Hid (L.length + f = 32)) (fun _ wr => match wr.cell? ⟨w.heap.size, 2, none⟩ with | some (.int _ n) => n.natAbs | _ => 0)
  case atStart => exact ⟨32, ⟨a, b, c, d⟩, _, [], WS.start _ ⟨a, b, c, d⟩, HW.out, rfl, rfl, rfl⟩
  case round =>
    clear HW
    obtain ⟨f, m, v, L, HS, HF, HL, HN, HE⟩ := hrel
    obtain ⟨f, rfl⟩ := HF.out.pos
    obtain ⟨⟨x0, x1, x2, x3⟩, xf⟩ := four_of_block HS.out.mat
    obtain ⟨⟨y0, y1⟩, yf⟩ := two_of_block HS.out.var
    obtain ⟨⟨r0, r1⟩, rf⟩ := two_of_block HS.out.res
    obtain ⟨⟨a1, a2⟩, ⟨b1, b2⟩, ⟨c1, c2⟩, d1, d2⟩ := M.ok_iff.1 HF.out.ok
    have hown := HS.out.own
    have hsz := HS.out.size
    have hll : L.length ≤ 31 := by have := HE.out; omega
    by_cases hc : m.c = 0
    · have HLL := Lib.hid HL.out
      rw [wl_last hc] at HLL
      have HNN := Lib.hid HN.out
      rw [wn_last hc] at HNN
      obtain ⟨p1, p2⟩ := prod_le a1 a2 b1 b2
      rw [hc] at x2
      have HS2 := Lib.hid (HS.out.neg (decide (m.a < 0)))
      go_upto_region 7 with fail
      generalize decide (m.a < 0) = bo at *
      clear x0 x1 x2 x3 xf y0 y1 yf r0 r1 rf hown hsz HS
      obtain ⟨W2, hW2⟩ : ∃ W2, W2 = wr.setCell ⟨w.heap.size + 1 + 1, 0, none⟩ (.bool bo) := ⟨_, rfl⟩
      rw [← hW2] at HS2 ⊢
      clear hW2
      obtain ⟨⟨x0, x1, x2, x3⟩, xf⟩ := four_of_block HS2.out.mat
      obtain ⟨⟨y0, y1⟩, yf⟩ := two_of_block HS2.out.var
      have hown := HS2.out.own
      have hsz := HS2.out.size
      go_wp2_with (first
        | (at_builtin; (refine wpList_append_own _ rfl _ _ 45 rfl (w.heap.size + 1 + 1 + 1) 3 i0 (.int .i64 0) 1 8 Try.underlying45 hi hz0 hz1 hz2 rfl (by decide) _ _ _ rfl (hown.alloc _) ⟨W2.heap.size, 0, none⟩ 1 1 [.int .i64 (m.a * m.b)] rfl rfl (cell_one_new' _ _ _) (fun x hx => by simp at hx; rw [hx]; rfl) (by unfold maxLen; omega) (by omega) (by simp; omega) ?_); intro v' w3 hown' hgrow3 hnil3; obtain ⟨A', c', rfl⟩ := own_len hown'; obtain ⟨⟨u0, u1⟩, uf⟩ := two_of_block (block_grown HS2.out.res hown (by omega) hgrow3); obtain ⟨⟨z0, z1⟩, zf⟩ := two_of_block (block_grown HS2.out.var hown (by omega) hgrow3); have HR := Lib.hid (HS2.out.app hown' hgrow3); clear hown' hgrow3 hnil3)
        | fail)
      obtain ⟨L2, hL2⟩ : ∃ L2, L2 = wl 32 ⟨a, b, c, d⟩ := ⟨_, rfl⟩
      rw [← hL2] at HLL ⊢
      clear hL2
      refine bodyPost_ret (v := .agg #[.bool bo, .slice A' (L.length + 1) c']) ?_ rfl ⟨_, by rw [← HNN.out], ?_, ?_⟩
      · simp [results, Try.results69, go_sem, *]
      · rw [← HLL.out]; exact own_base (by omega) (own_set (own_set HR.out.own (by omega) _) (by omega) _)
      · exact (HR.out.bel.setCell (by show w.heap.size ≤ w.heap.size + 1; omega) _).setCell (by show w.heap.size ≤ w.heap.size + 1; omega) _
    · have hc0 : (m.c == 0) = false := by simpa using hc
      have HLL := Lib.hid HL.out
      rw [wl_next hc] at HLL
      have HNN := Lib.hid HN.out
      rw [wn_next hc] at HNN
      have HQ := Lib.hid (fun W => nearest_any m.a m.c W a1 a2 c1 c2 hc)
      have HF2 := Lib.hid (HF.out.next hc)
      have HC2 := Lib.hid (M.step_c hc)
      obtain ⟨q1, q2⟩ := nq_bd hc a1 a2
      obtain ⟨p1, p2⟩ := prod_le q1 q2 c1 c2
      obtain ⟨p3, p4⟩ := prod_le q1 q2 d1 d2
      have HST : Hid (m.step = ⟨m.c, m.d, nq m.a m.c * m.c - m.a, nq m.a m.c * m.d - m.b⟩) := rfl
      generalize nq m.a m.c = q at *
      go_wp2_with (first
        | (go_at_call 79; ((with_reducible refine (HQ.out _).mono ?_); rintro e w' ⟨rfl, rfl⟩))
        | (at_builtin; (refine wpList_append_own _ rfl _ _ 45 rfl (w.heap.size + 1 + 1 + 1) 3 i0 (.int .i64 0) 1 8 Try.underlying45 hi hz0 hz1 hz2 rfl (by decide) _ _ _ rfl (hown.alloc _) ⟨wr.heap.size, 0, none⟩ 1 1 [.int .i64 q] rfl rfl (cell_one_new' _ _ _) (fun x hx => by simp at hx; rw [hx]; rfl) (by unfold maxLen; omega) (by omega) (by simp; omega) ?_); intro v' w3 hown' hgrow3 hnil3; obtain ⟨A', c', rfl⟩ := own_len hown'; obtain ⟨⟨u0, u1, u2, u3⟩, uf⟩ := four_of_block (block_grown HS.out.mat hown (by omega) hgrow3); obtain ⟨⟨z0, z1⟩, zf⟩ := two_of_block (block_grown HS.out.var hown (by omega) hgrow3); have HR := Lib.hid (HS.out.app hown' hgrow3); clear hown' hgrow3 hnil3)
        | fail)
      go_roundw
      case rel => exact ⟨f, m.step, _, L ++ [q], by rw [HST.out]; exact HR.out.mat4 _ _ _ _, HF2.out, by have := HLL.out; show _ = _; rw [List.append_assoc]; exact this, HNN.out, by have := HE.out; show _ = _; simp; omega⟩
      case measure =>
        have e := (four_of_block (HR.out.mat4 m.c m.d (q * m.c - m.a) (q * m.d - m.b)).mat).1.2.2.1
        rw [e, x2]
        have := HC2.out
        rw [HST.out] at this
        show (q * m.c - m.a).natAbs < m.c.natAbs
        dsimp only at this
        omega

/-- The zero word and an error, or the word of the matrix. -/
def FacRet (w : World) (m : M) (k : Int) (e : Ending) (w' : World) : Prop :=
  ∃ (n : Bool) (A : Option Addr) (c : Nat) (l : List Int), e = .returned (.tuple #[.agg #[.bool n, .slice A l.length c], .int .i64 k]) ∧ RdZ w' w'.heap.size A c l ∧ (∀ a, A = some a → w.heap.size ≤ a.block) ∧
    Hid (k = chkI m.a m.b m.c m.d ∧ n = (if k = 0 then wn 32 m else false) ∧ l = (if k = 0 then wl 32 m else [])) ∧ Below w.heap.size w w'
theorem own_high {w : World} {b : Nat} {e : TypeId} {size : Nat} {A : Option Addr} {c n : Nat} {xs : List Value} (h : w.ownsRow b e size (.slice A n c) n xs) : ∀ a, A = some a → b ≤ a.block := by
  rintro a rfl
  rcases h.2 with ⟨h1, _⟩ | ⟨g, cap, cur, h1, h2, _⟩
  · cases h1
  · cases h1; exact h2
theorem word_ret (a b c d : Int) (w : World) (hd : (M.mk a b c d).det = 1) (ho : (M.mk a b c d).ok = true) :
    Calls Try.prog 69 #[.agg #[.int .i64 a, .int .i64 b, .int .i64 c, .int .i64 d]] w fun e w' => ∃ (A : Option Addr) (k : Nat), e = .returned (.agg #[.bool (wn 32 ⟨a, b, c, d⟩), .slice A (wl 32 ⟨a, b, c, d⟩).length k]) ∧
      w'.ownsRow w.heap.size 3 1 (.slice A (wl 32 ⟨a, b, c, d⟩).length k) (wl 32 ⟨a, b, c, d⟩).length (zs (wl 32 ⟨a, b, c, d⟩)) ∧ Below w.heap.size w w' := by
  refine (word_any a b c d w hd ho).mono ?_
  rintro e w' ⟨v, he, hown, hb⟩
  obtain ⟨A, k, rfl⟩ := own_len hown
  exact ⟨A, k, he, hown, hb⟩
set_option maxHeartbeats 1600000 in
set_option maxRecDepth 1000000 in
theorem wfactor_any (a b c d : Int) (w : World) : Calls Try.prog 54 #[.agg #[.int .i64 a, .int .i64 b, .int .i64 c, .int .i64 d]] w fun e w' => ∃ k, FacRet w ⟨a, b, c, d⟩ k e w' := by
  have HC := Lib.hid (fun W => check_any a b c d W)
  rcases chk_cases a b c d with ⟨h, hk⟩ | ⟨h, h1, hk⟩ | ⟨h, h1, hk⟩
  · have HK : Hid ((2 : Int) = chkI a b c d) := hk.symm
    rw [hk] at HC
    clear h hk
    go_enter Try.func54, Try.ntmps54
    go_wp2_with (first
      | (go_at_call 35; ((with_reducible refine (HC.out _).mono ?_); rintro e w1 ⟨rfl, hb⟩; obtain ⟨hc, hf⟩ := bcell hb; obtain ⟨hz0, hz1⟩ : w.heap.size < w1.heap.size ∧ w.heap.size + 1 < w1.heap.size := (by have := hb.size; (try simp at this); omega); have HBn : Hid (Below w.heap.size w w1) := (by first | exact HB.out.trans (hb.mono HB.out.size) | exact (HB.out.trans ((below1 _ _).mono HB.out.size)).trans (hb.mono (by have := HB.out.size; (try simp); omega)) | exact (below2 _ _ _).trans (hb.mono (by simp; omega)) | fail); have HB := Lib.hid HBn.out; clear HBn hb))
      | fail)
    refine bodyPost_ret (v := .tuple #[.agg #[.bool false, .slice none 0 0], .int .i64 2]) ?_ rfl ⟨2, false, none, 0, [], rfl, ?_, by simp, ⟨HK.out, rfl, rfl⟩, below_set2 HB.out (by omega) _ _⟩
    · simp [results, Try.results54, go_sem, *]
    · exact ⟨by simp, by unfold maxLen; omega, fun h0 => by simp at h0, fun _ h0 => by cases h0⟩
  · have HK : Hid ((0 : Int) = chkI a b c d) := hk.symm
    have HWD := Lib.hid (fun W => word_ret a b c d W h1 h)
    rw [hk] at HC
    clear h h1 hk
    obtain ⟨l, hl⟩ : ∃ l, l = wl 32 ⟨a, b, c, d⟩ := ⟨_, rfl⟩
    obtain ⟨n, hn⟩ : ∃ n, n = wn 32 ⟨a, b, c, d⟩ := ⟨_, rfl⟩
    rw [← hl, ← hn] at HWD
    have HL := Lib.hid hl
    have HN := Lib.hid hn
    clear hl hn
    go_enter Try.func54, Try.ntmps54
    go_wp2_with (first
      | (go_at_call 35; ((with_reducible refine (HC.out _).mono ?_); rintro e w1 ⟨rfl, hb⟩; obtain ⟨hc, hf⟩ := bcell hb; obtain ⟨hz0, hz1⟩ : w.heap.size < w1.heap.size ∧ w.heap.size + 1 < w1.heap.size := (by have := hb.size; (try simp at this); omega); have HBn : Hid (Below w.heap.size w w1) := (by first | exact HB.out.trans (hb.mono HB.out.size) | exact (HB.out.trans ((below1 _ _).mono HB.out.size)).trans (hb.mono (by have := HB.out.size; (try simp); omega)) | exact (below2 _ _ _).trans (hb.mono (by simp; omega)) | fail); have HB := Lib.hid HBn.out; clear HBn hb))
      | (go_at_call 69; ((with_reducible refine (HWD.out _).mono ?_); rintro e w2 ⟨A, k, rfl, hown, hb⟩; have HO := Lib.hid hown; clear hown; have HZ := Lib.hid hb.size; obtain ⟨hc, hf⟩ := bcell hb; obtain ⟨hz0, hz1⟩ : w.heap.size < w2.heap.size ∧ w.heap.size + 1 < w2.heap.size := (by have := hb.size; (try simp at this); omega); have HBn : Hid (Below w.heap.size w w2) := (by first | exact HB.out.trans (hb.mono HB.out.size) | exact (HB.out.trans ((below1 _ _).mono HB.out.size)).trans (hb.mono (by have := HB.out.size; (try simp); omega)) | exact (below2 _ _ _).trans (hb.mono (by simp; omega)) | fail); have HB := Lib.hid HBn.out; clear HBn hb))
      | fail)
    refine bodyPost_ret (v := .tuple #[.agg #[.bool n, .slice A l.length k], .int .i64 0]) ?_ rfl ⟨0, n, A, k, l, rfl, ?_, ?_, ⟨HK.out, HN.out, HL.out⟩, below_set2 HB.out (by omega) _ _⟩
    · simp [results, Try.results54, go_sem, *]
    · obtain ⟨A2, c2, he, hr⟩ := own_rdz (own_set (j := 1) (g := w.heap.size + 1) (own_set (j := 0) (g := w.heap.size + 1) HO.out (by omega) (.bool n)) (by omega) (.slice A l.length k))
      cases he
      exact hr
    · intro x hx
      have := own_high HO.out x hx
      omega
  · have HK : Hid ((12 : Int) = chkI a b c d) := hk.symm
    rw [hk] at HC
    clear h h1 hk
    go_enter Try.func54, Try.ntmps54
    go_wp2_with (first
      | (go_at_call 35; ((with_reducible refine (HC.out _).mono ?_); rintro e w1 ⟨rfl, hb⟩; obtain ⟨hc, hf⟩ := bcell hb; obtain ⟨hz0, hz1⟩ : w.heap.size < w1.heap.size ∧ w.heap.size + 1 < w1.heap.size := (by have := hb.size; (try simp at this); omega); have HBn : Hid (Below w.heap.size w w1) := (by first | exact HB.out.trans (hb.mono HB.out.size) | exact (HB.out.trans ((below1 _ _).mono HB.out.size)).trans (hb.mono (by have := HB.out.size; (try simp); omega)) | exact (below2 _ _ _).trans (hb.mono (by simp; omega)) | fail); have HB := Lib.hid HBn.out; clear HBn hb))
      | fail)
    refine bodyPost_ret (v := .tuple #[.agg #[.bool false, .slice none 0 0], .int .i64 12]) ?_ rfl ⟨12, false, none, 0, [], rfl, ?_, by simp, ⟨HK.out, rfl, rfl⟩, below_set2 HB.out (by omega) _ _⟩
    · simp [results, Try.results54, go_sem, *]
    · exact ⟨by simp, by unfold maxLen; omega, fun h0 => by simp at h0, fun _ h0 => by cases h0⟩
end Go.Proofs.Ytilfkppapimocaa
