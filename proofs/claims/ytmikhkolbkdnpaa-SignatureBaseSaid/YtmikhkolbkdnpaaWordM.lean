/- Plain mathematics of words in S and T: nearest quotients, the word of a matrix, the value of a word. -/
import Derived.Test.YtmikhkolbkdnpaaMatM
namespace Go.Proofs.Ytmikhkolbkdnpaa

/-- The remainder of a by c that is nearest to 0. -/
def nr (a c : Int) : Int := if (c.natAbs : Int) < 2 * (a % (c.natAbs : Int)) then a % (c.natAbs : Int) - (c.natAbs : Int) else a % (c.natAbs : Int)
def nq (a c : Int) : Int := (a - nr a c) / c
theorem natAbs_dvd_self (c : Int) : (c.natAbs : Int) ∣ c := Int.natAbs_dvd.2 (Int.dvd_refl c)
theorem self_dvd_natAbs (c : Int) : c ∣ (c.natAbs : Int) := Int.dvd_natAbs.2 (Int.dvd_refl c)
theorem nr_spec (a : Int) {c : Int} (hc : c ≠ 0) : -(c.natAbs : Int) < 2 * nr a c ∧ 2 * nr a c ≤ (c.natAbs : Int) ∧ a - nq a c * c = nr a c := by
  have h0 : (0 : Int) < (c.natAbs : Int) := by omega
  have h1 := Int.emod_nonneg a (show (c.natAbs : Int) ≠ 0 by omega)
  have h2 := Int.emod_lt_of_pos a h0
  have hd : c ∣ a - nr a c := by
    have k1 : (c.natAbs : Int) ∣ a - a % (c.natAbs : Int) := Int.dvd_self_sub_emod
    have k2 : c ∣ a - a % (c.natAbs : Int) := Int.dvd_trans (self_dvd_natAbs c) k1
    unfold nr
    split
    · rw [show a - (a % (c.natAbs : Int) - (c.natAbs : Int)) = (a - a % (c.natAbs : Int)) + (c.natAbs : Int) by omega]
      exact Int.dvd_add k2 (self_dvd_natAbs c)
    · exact k2
  refine ⟨?_, ?_, ?_⟩
  · unfold nr; split <;> omega
  · unfold nr; split <;> omega
  · unfold nq
    rw [Int.ediv_mul_cancel hd]
    omega
theorem nr_le (a : Int) {c : Int} (hc : c ≠ 0) : 2 * (nr a c).natAbs ≤ c.natAbs := by
  obtain ⟨h1, h2, _⟩ := nr_spec a hc
  omega
/-- The nearest quotient is the only one with such a remainder. -/
theorem nq_of {a c q r : Int} (hc : c ≠ 0) (h : a - q * c = r) (h1 : -(c.natAbs : Int) < 2 * r) (h2 : 2 * r ≤ (c.natAbs : Int)) : q = nq a c := by
  obtain ⟨k1, k2, k3⟩ := nr_spec a hc
  have e : (nq a c - q) * c = r - nr a c := by rw [Int.sub_mul]; omega
  have h3 : ((nq a c - q) * c).natAbs < c.natAbs := by rw [e]; omega
  rw [Int.natAbs_mul] at h3
  have h4 : (nq a c - q).natAbs = 0 := by
    rcases Nat.eq_zero_or_pos (nq a c - q).natAbs with h4 | h4
    · exact h4
    · have := Nat.mul_le_mul_right c.natAbs (show 1 ≤ (nq a c - q).natAbs from h4)
      omega
  omega
/-- What the code does: the truncated quotient, moved by one where its remainder is too great. -/
theorem tdiv_parts (a c : Int) : a - a.tdiv c * c = a.tmod c := by
  have := Int.mul_tdiv_add_tmod a c
  rw [Int.mul_comm] at this; omega
theorem tmod_bd (a : Int) {c : Int} (hc : c ≠ 0) : (a.tmod c).natAbs < c.natAbs := by
  rw [Int.natAbs_tmod]; exact Nat.mod_lt _ (by omega)
theorem nq_mid {a c : Int} (hc : c ≠ 0) (h1 : -(c.natAbs : Int) < 2 * (a - a.tdiv c * c)) (h2 : 2 * (a - a.tdiv c * c) ≤ (c.natAbs : Int)) : a.tdiv c = nq a c := nq_of hc rfl h1 h2
theorem nq_up {a c : Int} (hc : 0 < c) (h1 : c < 2 * (a - a.tdiv c * c)) : a.tdiv c + 1 = nq a c := by
  have := tmod_bd a (c := c) (by omega)
  have e := tdiv_parts a c
  refine nq_of (r := a.tmod c - c) (by omega) ?_ (by omega) (by omega)
  rw [Int.add_mul]; omega
theorem nq_up' {a c : Int} (hc : c < 0) (h1 : -c < 2 * (a - a.tdiv c * c)) : a.tdiv c + -1 = nq a c := by
  have := tmod_bd a (c := c) (by omega)
  have e := tdiv_parts a c
  refine nq_of (r := a.tmod c + c) (by omega) ?_ (by omega) (by omega)
  rw [Int.add_mul]; omega
theorem nq_down {a c : Int} (hc : 0 < c) (h1 : 2 * (a - a.tdiv c * c) ≤ -c) : a.tdiv c - 1 = nq a c := by
  have := tmod_bd a (c := c) (by omega)
  have e := tdiv_parts a c
  refine nq_of (r := a.tmod c + c) (by omega) ?_ (by omega) (by omega)
  rw [Int.sub_mul]; omega
theorem nq_down' {a c : Int} (hc : c < 0) (h1 : 2 * (a - a.tdiv c * c) ≤ c) : a.tdiv c - -1 = nq a c := by
  have := tmod_bd a (c := c) (by omega)
  have e := tdiv_parts a c
  refine nq_of (r := a.tmod c - c) (by omega) ?_ (by omega) (by omega)
  rw [Int.sub_mul]; omega
theorem nq_le {a c : Int} (hc : c ≠ 0) (ha : a.natAbs ≤ 1073741824) : (nq a c).natAbs ≤ 1073741824 := by
  obtain ⟨k1, k2, k3⟩ := nr_spec a hc
  have h1 : (nq a c).natAbs * c.natAbs = (nq a c * c).natAbs := (Int.natAbs_mul _ _).symm
  have h2 := nr_le a hc
  rcases Nat.lt_or_ge 1 c.natAbs with h | h
  · rcases Nat.lt_or_ge 1073741824 (nq a c).natAbs with k | k
    · have h5 := Nat.mul_le_mul k (show 2 ≤ c.natAbs from h)
      have h6 := Nat.mul_le_mul (show 2 ≤ (nq a c).natAbs by omega) (Nat.le_refl c.natAbs)
      have h7 := Nat.mul_le_mul_right c.natAbs (show 1073741825 ≤ (nq a c).natAbs by omega)
      omega
    · exact k
  · have hc1 : c.natAbs = 1 := by omega
    have : nr a c = 0 := by omega
    rw [hc1, Nat.mul_one] at h1
    omega
/-- The quotient of what is at least twice as great is at least 2. -/
theorem nq_ge {a c : Int} (hc : c ≠ 0) (h : 2 * c.natAbs ≤ a.natAbs) : 2 ≤ (nq a c).natAbs := by
  obtain ⟨k1, k2, k3⟩ := nr_spec a hc
  have h1 : (nq a c).natAbs * c.natAbs = (nq a c * c).natAbs := (Int.natAbs_mul _ _).symm
  have h2 := nr_le a hc
  have h3 : (nq a c * c).natAbs + c.natAbs ≥ 2 * c.natAbs + (c.natAbs - (nr a c).natAbs) := by omega
  rcases Nat.lt_or_ge (nq a c).natAbs 2 with k | k
  · have := Nat.mul_le_mul_right c.natAbs (show (nq a c).natAbs ≤ 1 by omega)
    omega
  · exact k

/-- S^-1 T^-q m for the nearest quotient q. -/
def M.step (m : M) : M := ⟨m.c, m.d, nq m.a m.c * m.c - m.a, nq m.a m.c * m.d - m.b⟩
/-- m S T^n -/
def M.stn (m : M) (n : Int) : M := ⟨m.b, m.b * n - m.a, m.d, m.d * n - m.c⟩
def M.S : M := ⟨0, -1, 1, 0⟩
def M.T (n : Int) : M := ⟨1, n, 0, 1⟩
def M.neg (m : M) : M := ⟨-m.a, -m.b, -m.c, -m.d⟩
theorem M.stn_eq (m : M) (n : Int) : m.stn n = (m.mul M.S).mul (M.T n) := by
  refine M.same ?_ ?_ ?_ ?_ <;> simp [M.stn, M.mul, M.S, M.T] <;> omega
theorem M.step_eq (m : M) : m = ((M.T (nq m.a m.c)).mul M.S).mul m.step := by
  refine M.same ?_ ?_ ?_ ?_ <;> simp [M.step, M.mul, M.S, M.T] <;> omega
theorem M.step_det {m : M} (h : m.det = 1) : m.step.det = 1 := by
  unfold M.det at *
  show m.c * (nq m.a m.c * m.d - m.b) - m.d * (nq m.a m.c * m.c - m.a) = 1
  rw [Int.mul_sub, Int.mul_sub, show m.c * (nq m.a m.c * m.d) = m.d * (nq m.a m.c * m.c) by rw [Int.mul_left_comm, Int.mul_left_comm m.d, Int.mul_comm m.c m.d], Int.mul_comm m.c m.b, Int.mul_comm m.d m.a]
  omega
theorem M.step_c {m : M} (h : m.c ≠ 0) : 2 * m.step.c.natAbs ≤ m.c.natAbs := by
  have h1 := nr_le m.a h
  obtain ⟨_, _, h2⟩ := nr_spec m.a h
  show 2 * (nq m.a m.c * m.c - m.a).natAbs ≤ _
  omega
/-- The entries of the next matrix are within the limits. -/
theorem M.step_ok {m : M} (hc : m.c ≠ 0) (hd : m.det = 1) (h : m.ok = true) : m.step.ok = true := by
  obtain ⟨⟨a1, a2⟩, ⟨b1, b2⟩, ⟨c1, c2⟩, d1, d2⟩ := M.ok_iff.1 h
  have h1 := M.step_c hc
  have h2 := M.step_det hd
  have e1 : m.step.a = m.c := rfl
  have e2 : m.step.b = m.d := rfl
  unfold M.det at h2
  rw [e1, e2] at h2
  have h3 : m.c.natAbs * m.step.d.natAbs = (m.c * m.step.d).natAbs := (Int.natAbs_mul _ _).symm
  have h4 : m.d.natAbs * m.step.c.natAbs = (m.d * m.step.c).natAbs := (Int.natAbs_mul _ _).symm
  have h5 : m.d.natAbs * (2 * m.step.c.natAbs) ≤ 1073741824 * m.c.natAbs := Nat.mul_le_mul (by omega) h1
  have h6 : m.step.d.natAbs ≤ 1073741824 := by
    rcases Nat.lt_or_ge 1073741824 m.step.d.natAbs with k | k
    · have h7 := Nat.mul_le_mul_left m.c.natAbs (show 1073741825 ≤ m.step.d.natAbs from k)
      rw [Nat.mul_left_comm] at h5
      omega
    · exact k
  refine M.ok_iff.2 ⟨⟨c1, c2⟩, ⟨d1, d2⟩, ?_, ?_⟩ <;> omega
/-- The exponents of the word of a matrix. -/
def wl : Nat → M → List Int
  | 0, _ => []
  | f + 1, m => if m.c = 0 then [m.a * m.b] else nq m.a m.c :: wl f m.step
/-- Whether it is negative. -/
def wn : Nat → M → Bool
  | 0, _ => false
  | f + 1, m => if m.c = 0 then decide (m.a < 0) else wn f m.step
theorem wl_last {f : Nat} {m : M} (h : m.c = 0) : wl (f + 1) m = [m.a * m.b] := if_pos h
theorem wl_next {f : Nat} {m : M} (h : m.c ≠ 0) : wl (f + 1) m = nq m.a m.c :: wl f m.step := if_neg h
theorem wn_last {f : Nat} {m : M} (h : m.c = 0) : wn (f + 1) m = decide (m.a < 0) := if_pos h
theorem wn_next {f : Nat} {m : M} (h : m.c ≠ 0) : wn (f + 1) m = wn f m.step := if_neg h
theorem wl_len : ∀ (f : Nat) (m : M), (wl f m).length ≤ f
  | 0, _ => Nat.le_refl _
  | f + 1, m => by
    by_cases h : m.c = 0
    · rw [wl_last h]; simp
    · rw [wl_next h, List.length_cons]; exact Nat.succ_le_succ (wl_len f _)
/-- A matrix on the way: of determinant 1, within the limits, with enough rounds left. -/
structure Way (f : Nat) (m : M) : Prop where
  det : m.det = 1
  ok : m.ok = true
  few : 2 * m.c.natAbs + 1 < 2 ^ f
theorem Way.start {m : M} (hd : m.det = 1) (h : m.ok = true) : Way 32 m := ⟨hd, h, by
  obtain ⟨_, _, ⟨c1, c2⟩, _⟩ := M.ok_iff.1 h
  have e : (2 : Nat) ^ 32 = 4294967296 := by decide
  rw [e]; omega⟩
theorem Way.pos {f : Nat} {m : M} (h : Way f m) : ∃ g, f = g + 1 := by
  cases f with
  | zero => have := h.few; have e : (2 : Nat) ^ 0 = 1 := rfl; omega
  | succ g => exact ⟨g, rfl⟩
theorem Way.next {f : Nat} {m : M} (h : Way (f + 1) m) (hc : m.c ≠ 0) : Way f m.step := by
  refine ⟨M.step_det h.det, M.step_ok hc h.det h.ok, ?_⟩
  have h1 := M.step_c hc
  have h2 := h.few
  rw [Nat.pow_succ] at h2
  cases f with
  | zero => have e : (2 : Nat) ^ 0 = 1 := rfl; omega
  | succ g => rw [Nat.pow_succ] at h2 ⊢; omega
/-- Where the lower left entry is 0, the matrix is T^n or -T^n. -/
theorem M.last {m : M} (hd : m.det = 1) (hc : m.c = 0) : (m.a = 1 ∧ m.d = 1) ∨ (m.a = -1 ∧ m.d = -1) := by
  unfold M.det at hd
  rw [hc, Int.mul_zero, Int.sub_zero] at hd
  have h1 : m.a.natAbs * m.d.natAbs = 1 := by rw [← Int.natAbs_mul, hd]; rfl
  have h2 := Nat.eq_one_of_mul_eq_one_right h1
  have h3 := Nat.eq_one_of_mul_eq_one_left h1
  rcases (show m.a = 1 ∨ m.a = -1 by omega) with h | h
  · rw [h] at hd; exact .inl ⟨h, by omega⟩
  · rw [h] at hd; exact .inr ⟨h, by omega⟩
theorem wl_in : ∀ (f : Nat) (m : M), Way f m → ∀ x ∈ wl f m, inE x = true
  | 0, m, _, x, hx => by cases hx
  | f + 1, m, h, x, hx => by
    obtain ⟨⟨a1, a2⟩, ⟨b1, b2⟩, _⟩ := M.ok_iff.1 h.ok
    by_cases hc : m.c = 0
    · rw [wl_last hc] at hx
      have : x = m.a * m.b := by simpa using hx
      rw [this]
      rcases M.last h.det hc with ⟨k, _⟩ | ⟨k, _⟩
      · rw [k, Int.one_mul]; exact inE_yes b1 b2
      · rw [k]; exact inE_yes (by omega) (by omega)
    · rw [wl_next hc] at hx
      rcases List.mem_cons.1 hx with k | k
      · rw [k]
        have := nq_le hc (show m.a.natAbs ≤ 1073741824 by omega)
        exact inE_yes (by omega) (by omega)
      · exact wl_in f m.step (h.next hc) x k
theorem wl_cons {f : Nat} {m : M} (h : Way f m) : ∃ e l, wl f m = e :: l := by
  obtain ⟨g, rfl⟩ := h.pos
  by_cases hc : m.c = 0
  · exact ⟨_, _, wl_last hc⟩
  · exact ⟨_, _, wl_next hc⟩

/-- The value of the rest of a word, if no product on the way is too great. -/
def vgo : M → List Int → Option M
  | m, [] => some m
  | m, n :: l => if (m.stn n).ok then vgo (m.stn n) l else none
/-- The value of the rest of a word. -/
def vprod : M → List Int → M
  | m, [] => m
  | m, n :: l => vprod (m.stn n) l
theorem vgo_prod : ∀ (l : List Int) (m r : M), vgo m l = some r → r = vprod m l
  | [], m, r, h => by simpa [vgo, vprod] using h.symm
  | n :: l, m, r, h => by
    unfold vgo at h
    split at h
    · exact vgo_prod l _ r h
    · cases h
theorem big {x y p r : Int} (h1 : y.natAbs ≤ x.natAbs) (h2 : 2 * r.natAbs ≤ p.natAbs) (hp : p ≠ 0) : x.natAbs ≤ (x * p - y * r).natAbs := by
  have e1 : x.natAbs * p.natAbs = (x * p).natAbs := (Int.natAbs_mul _ _).symm
  have e2 : y.natAbs * r.natAbs = (y * r).natAbs := (Int.natAbs_mul _ _).symm
  have e3 : y.natAbs * r.natAbs ≤ x.natAbs * r.natAbs := Nat.mul_le_mul_right _ h1
  have e4 : x.natAbs * (1 + r.natAbs) ≤ x.natAbs * p.natAbs := Nat.mul_le_mul_left _ (by omega)
  rw [Nat.mul_add, Nat.mul_one] at e4
  omega
/-- What holds of the product P of a word's beginning and the rest m' of the matrix m. -/
structure Inv (P m' m : M) : Prop where
  det : P.det = 1
  low : P.c.natAbs ≤ P.d.natAbs
  up : P.a.natAbs ≤ P.b.natAbs ∨ P.b = 0
  ne : m'.a ≠ 0
  far : 2 * m'.c.natAbs ≤ m'.a.natAbs
  eq : (P.mul M.S).mul m' = m
theorem Inv.ok {P m' m : M} (h : Inv P m' m) (hm : m.ok = true) : P.ok = true := by
  obtain ⟨⟨a1, a2⟩, _, ⟨c1, c2⟩, _⟩ := M.ok_iff.1 hm
  have hc : m.c = P.d * m'.a - P.c * m'.c := by rw [← h.eq]; simp [M.mul, M.S, Int.neg_mul]; omega
  have ha : m.a = P.b * m'.a - P.a * m'.c := by rw [← h.eq]; simp [M.mul, M.S, Int.neg_mul]; omega
  have k1 := big h.low h.far h.ne
  rw [← hc] at k1
  have k2 := h.low
  rcases h.up with k | k
  · have k3 := big k h.far h.ne
    rw [← ha] at k3
    refine M.ok_iff.2 ⟨?_, ?_, ?_, ?_⟩ <;> omega
  · have hd := h.det
    unfold M.det at hd
    rw [k, Int.zero_mul, Int.sub_zero] at hd
    have h1 : P.a.natAbs * P.d.natAbs = 1 := by rw [← Int.natAbs_mul, hd]; rfl
    have h2 := Nat.eq_one_of_mul_eq_one_right h1
    refine M.ok_iff.2 ⟨?_, ?_, ?_, ?_⟩ <;> omega
theorem M.stn_det {P : M} (h : P.det = 1) (n : Int) : (P.stn n).det = 1 := by
  rw [M.stn_eq, M.det_mul, M.det_mul, h]; simp [M.det, M.S, M.T]
theorem Inv.next {P m' m : M} (h : Inv P m' m) (hc : m'.c ≠ 0) : Inv (P.stn (nq m'.a m'.c)) m'.step m := by
  have hq := nq_ge hc h.far
  have hcc := M.step_c hc
  refine ⟨M.stn_det h.det _, ?_, .inl ?_, hc, hcc, ?_⟩
  · have k := big (x := P.d) (y := P.c) (p := nq m'.a m'.c) (r := 1) h.low (by simpa using hq) (by omega)
    rw [Int.mul_one] at k
    exact k
  · rcases h.up with k0 | k0
    · have k := big (x := P.b) (y := P.a) (p := nq m'.a m'.c) (r := 1) k0 (by simpa using hq) (by omega)
      rw [Int.mul_one] at k
      exact k
    · show P.b.natAbs ≤ _
      rw [k0]; exact Nat.zero_le _
  · rw [M.stn_eq, M.mul_assoc, M.mul_assoc]
    have e := M.step_eq m'
    rw [M.mul_assoc] at e
    rw [← e]; exact h.eq
theorem M.neg_ok {m : M} (h : m.ok = true) : m.neg.ok = true := by
  obtain ⟨⟨a1, a2⟩, ⟨b1, b2⟩, ⟨c1, c2⟩, d1, d2⟩ := M.ok_iff.1 h
  refine M.ok_iff.2 ⟨?_, ?_, ?_, ?_⟩ <;> (show _ ≤ -_ ∧ -_ ≤ _; omega)
theorem M.neg_neg (m : M) : m.neg.neg = m := by refine M.same ?_ ?_ ?_ ?_ <;> simp [M.neg]
theorem last_val {P m' m : M} (h : Inv P m' m) (hd : m'.det = 1) (hc : m'.c = 0) : (if decide (m'.a < 0) then (P.stn (m'.a * m'.b)).neg else P.stn (m'.a * m'.b)) = m := by
  have e := h.eq
  rcases M.last hd hc with ⟨k1, k2⟩ | ⟨k1, k2⟩
  · rw [k1]
    rw [if_neg (by decide), ← e]
    refine M.same ?_ ?_ ?_ ?_ <;> simp [M.stn, M.mul, M.S, k1, k2, hc] <;> omega
  · rw [k1]
    rw [if_pos (by decide), ← e]
    refine M.same ?_ ?_ ?_ ?_ <;> simp [M.stn, M.mul, M.S, M.neg, k1, k2, hc, Int.mul_neg] <;> omega
theorem vgo_wl (m : M) (hm : m.ok = true) : ∀ (f : Nat) (P m' : M), Way f m' → Inv P m' m → ∃ R, vgo P (wl f m') = some R ∧ (if wn f m' then R.neg else R) = m
  | 0, P, m', h, _ => by obtain ⟨g, hg⟩ := h.pos; cases hg
  | f + 1, P, m', h, hi => by
    by_cases hc : m'.c = 0
    · rw [wl_last hc, wn_last hc]
      have hl := last_val hi h.det hc
      refine ⟨P.stn (m'.a * m'.b), ?_, hl⟩
      have ho : (P.stn (m'.a * m'.b)).ok = true := by
        cases hs : decide (m'.a < 0) with
        | true => rw [hs, if_pos rfl] at hl; rw [← hl] at hm; have := M.neg_ok hm; rwa [M.neg_neg] at this
        | false => rw [hs, if_neg (by simp)] at hl; rw [← hl] at hm; exact hm
      unfold vgo; rw [if_pos ho]; rfl
    · rw [wl_next hc, wn_next hc]
      have hi' := hi.next hc
      unfold vgo
      rw [if_pos (hi'.ok hm)]
      exact vgo_wl m hm f _ _ (h.next hc) hi'
/-- The answer of Value. -/
def valE (n : Bool) (l : List Int) : M × Int :=
  match l with
  | [] => (.zero, 3)
  | e :: r => if 200 < (e :: r).length then (.zero, 2) else if (e :: r).all inE = false then (.zero, 2) else
    match vgo (M.T e) r with
    | none => (.zero, 7)
    | some m => (if n then m.neg else m, 0)
theorem valE_nil (n : Bool) : valE n [] = (.zero, 3) := rfl
theorem valE_long {n : Bool} {e : Int} {r : List Int} (h : 200 < (e :: r).length) : valE n (e :: r) = (.zero, 2) := if_pos h
theorem valE_out {n : Bool} {e : Int} {r : List Int} (h : (e :: r).length ≤ 200) (k : (e :: r).all inE = false) : valE n (e :: r) = (.zero, 2) := by
  unfold valE; dsimp only; rw [if_neg (by omega), if_pos k]
theorem valE_none {n : Bool} {e : Int} {r : List Int} (h : (e :: r).length ≤ 200) (k : (e :: r).all inE = true) (hv : vgo (M.T e) r = none) : valE n (e :: r) = (.zero, 7) := by
  unfold valE; dsimp only; rw [if_neg (by omega), if_neg (by rw [k]; simp), hv]
theorem valE_some {n : Bool} {e : Int} {r : List Int} {m : M} (h : (e :: r).length ≤ 200) (k : (e :: r).all inE = true) (hv : vgo (M.T e) r = some m) : valE n (e :: r) = (if n then m.neg else m, 0) := by
  unfold valE; dsimp only; rw [if_neg (by omega), if_neg (by rw [k]; simp), hv]
/-- What the word of a matrix stands for. -/
theorem word_prod {m : M} (hd : m.det = 1) (hm : m.ok = true) : ∃ e r R, wl 32 m = e :: r ∧ vgo (M.T e) r = some R ∧ (if wn 32 m then R.neg else R) = m := by
  have h := Way.start hd hm
  by_cases hc : m.c = 0
  · refine ⟨m.a * m.b, [], M.T (m.a * m.b), wl_last hc, rfl, ?_⟩
    rw [wn_last hc]
    rcases M.last hd hc with ⟨k1, k2⟩ | ⟨k1, k2⟩
    · rw [k1, if_neg (by decide)]
      refine M.same ?_ ?_ ?_ ?_ <;> simp [M.T, k1, k2, hc]
    · rw [k1, if_pos (by decide)]
      refine M.same ?_ ?_ ?_ ?_ <;> simp [M.T, M.neg, k1, k2, hc]
  · obtain ⟨R, h1, h2⟩ := vgo_wl m hm 31 (M.T (nq m.a m.c)) m.step (h.next hc) ⟨by simp [M.det, M.T], by simp [M.T], by
      by_cases k : nq m.a m.c = 0
      · exact .inr k
      · left; show (1 : Int).natAbs ≤ (nq m.a m.c).natAbs; have : (1 : Int).natAbs = 1 := rfl; omega, hc, M.step_c hc, (M.step_eq m).symm⟩
    exact ⟨_, _, R, wl_next hc, h1, by rw [wn_next hc]; exact h2⟩
theorem value_word {m : M} (hd : m.det = 1) (hm : m.ok = true) : valE (wn 32 m) (wl 32 m) = (m, 0) := by
  obtain ⟨e, r, R, h1, h2, h3⟩ := word_prod hd hm
  have hl := wl_len 32 m
  have hi : (wl 32 m).all inE = true := List.all_eq_true.2 (wl_in 32 m (Way.start hd hm))
  rw [h1] at hl hi ⊢
  rw [valE_some (by omega) hi h2, h3]
end Go.Proofs.Ytmikhkolbkdnpaa
