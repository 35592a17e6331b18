/- The contracts of power and move, of the reference's Go. Plain mathematics: the word of a product of matrices acts as the words, one behind the other: SL2(Z) acts. -/
import Derived.Test.YtmikhkolbkdnpaaEuN
import Derived.Test.YtmikhkolbkdnpaaRClsL
import Derived.Test.YtmikhkolbkdnpaaPPjL
import Derived.Test.YtmikhkolbkdnpaaWordM
import Derived.Deep.QuietTactic
namespace Go.Proofs.Ytmikhkolbkdnpaa
open Go.RowKit
set_option linter.unusedVariables false
set_option linter.unusedSimpArgs false

/-- The e-th power of f at i. -/
def pwA (f : Nat → Nat) (n i : Nat) (e : Int) : Nat := itr f (e % (perO f n i : Int)).toNat i
/-- Where the first k entries of a word lead. -/
def mvP (g f : Nat → Nat) (n : Nat) (l : List Int) (i : Nat) : Nat → Nat
  | 0 => i
  | k + 1 => pwA f n (if k = 0 then mvP g f n l i k else g (mvP g f n l i k)) (l.getD k 0)
theorem pwA_lt {f : Nat → Nat} {n i : Nat} (hp : Prm f n) (hi : i < n) (e : Int) : pwA f n i e < n := hp.itr_lt hi _
theorem mvP_lt {g f : Nat → Nat} {n i : Nat} (h : PAct g f n) (hi : i < n) (l : List Int) : ∀ k, mvP g f n l i k < n
  | 0 => hi
  | k + 1 => by
    have ih := mvP_lt h hi l k
    show pwA f n _ _ < n
    split
    · exact pwA_lt h.fp ih _
    · exact pwA_lt h.fp (h.gp.lt _ ih) _
theorem pact_inv {g f : Nat → Nat} {n : Nat} (h : PAct g f n) : Inv2 f (zOf g) n := ⟨h.zl, fun i hi => h.zz i hi, fun i hi => h.fc i hi⟩
theorem pwA_z {g f : Nat → Nat} {n i : Nat} (h : PAct g f n) (hi : i < n) (e : Int) : pwA f n (zOf g i) e = zOf g (pwA f n i e) := by
  have hz := pact_inv h
  have hp := (perO_spec h.fp hi).1
  have hp2 := Inv2.per h.fp hz hi hp
  have e1 := (perO_spec h.fp (h.zl i hi)).1.uniq hp2
  unfold pwA
  rw [e1]
  exact Inv2.itr h.fp hz hi _
theorem mvP_z {g f : Nat → Nat} {n i : Nat} (h : PAct g f n) (hi : i < n) (l : List Int) : ∀ k, mvP g f n l (zOf g i) k = zOf g (mvP g f n l i k)
  | 0 => rfl
  | k + 1 => by
    have ih := mvP_z h hi l k
    have hl := mvP_lt h hi l k
    show pwA f n (if k = 0 then mvP g f n l (zOf g i) k else g (mvP g f n l (zOf g i) k)) _ = zOf g (pwA f n (if k = 0 then mvP g f n l i k else g (mvP g f n l i k)) _)
    rw [ih]
    by_cases e : k = 0
    · rw [if_pos e, if_pos e]; exact pwA_z h hl _
    · rw [if_neg e, if_neg e]
      have : g (zOf g (mvP g f n l i k)) = zOf g (g (mvP g f n l i k)) := rfl
      rw [this]; exact pwA_z h (h.gp.lt _ hl) _
theorem tm_cases (e : Int) {c : Nat} (hc : 1 ≤ c) : (0 ≤ e ∧ e.tmod c = e % c) ∨ (e < 0 ∧ e.tmod c = -((-e) % c)) := by
  rcases Int.lt_or_le e 0 with h | h
  · right
    refine ⟨h, ?_⟩
    have h1 : (-e).tmod c = -(e.tmod c) := Int.neg_tmod e c
    rw [Int.tmod_eq_emod_of_nonneg (by omega)] at h1
    omega
  · exact .inl ⟨h, Int.tmod_eq_emod_of_nonneg h⟩
theorem neg_em (e : Int) {c : Nat} (hc : 1 ≤ c) (h : 0 < (-e) % (c : Int)) : e % (c : Int) = c - (-e) % (c : Int) := by
  have h1 := Int.mul_ediv_add_emod (-e) (c : Int)
  have h2 := Int.emod_lt_of_pos (-e) (show (0 : Int) < c by omega)
  have h3 : e = (c - (-e) % (c : Int)) + c * (-((-e) / (c : Int)) - 1) := by
    rw [Int.mul_sub, Int.mul_neg]; omega
  generalize (-e) % (c : Int) = m at *
  generalize (-e) / (c : Int) = q at *
  rw [h3, Int.add_mul_emod_self_left]
  exact Int.emod_eq_of_lt (by omega) (by omega)
theorem tmod_pos {e : Int} {c : Nat} (hc : 1 ≤ c) (h : 0 ≤ e.tmod c) : e.tmod c = ((e % (c : Int)).toNat : Nat) := by
  have h0 : 0 ≤ e % (c : Int) := Int.emod_nonneg _ (by omega)
  rw [Int.toNat_of_nonneg h0]
  rcases tm_cases e hc with ⟨_, k⟩ | ⟨h1, k⟩
  · exact k
  · have h2 : 0 ≤ (-e) % (c : Int) := Int.emod_nonneg _ (by omega)
    have h3 : (-e) % (c : Int) = 0 := by omega
    have h4 := Int.emod_eq_zero_of_dvd (Int.dvd_neg.1 (Int.dvd_of_emod_eq_zero h3))
    omega
theorem tmod_neg {e : Int} {c : Nat} (hc : 1 ≤ c) (h : e.tmod c < 0) : e.tmod c + c = ((e % (c : Int)).toNat : Nat) := by
  have h0 : 0 ≤ e % (c : Int) := Int.emod_nonneg _ (by omega)
  rw [Int.toNat_of_nonneg h0]
  rcases tm_cases e hc with ⟨_, k⟩ | ⟨h1, k⟩
  · omega
  · have := neg_em e hc (by omega)
    omega
theorem tmod_bds (e : Int) {c : Nat} (hc : 1 ≤ c) : -(c : Int) < e.tmod c ∧ e.tmod c < c := by
  rcases tm_cases e hc with ⟨_, k⟩ | ⟨h1, k⟩
  · have := Int.emod_nonneg e (show (c : Int) ≠ 0 by omega)
    have := Int.emod_lt_of_pos e (show (0 : Int) < c by omega)
    omega
  · have := Int.emod_nonneg (-e) (show (c : Int) ≠ 0 by omega)
    have := Int.emod_lt_of_pos (-e) (show (0 : Int) < c by omega)
    omega
end Go.Proofs.Ytmikhkolbkdnpaa
namespace Go.Proofs.Ytmikhkolbkdnpaa
set_option linter.unusedVariables false

section
variable {g f : Nat → Nat} {n : Nat}
theorem per_on {i : Nat} (h : PAct g f n) (hi : i < n) (k : Nat) : perO f n (itr f k i) = perO f n i := by
  obtain ⟨h1, _⟩ := perO_spec h.fp hi
  have hk := h.fp.itr_lt hi k
  refine (perO_spec h.fp hk).1.uniq ⟨h1.pos, ?_, fun j hj1 hj2 e => h1.least j hj1 hj2 ?_⟩
  · rw [← itr_add, Nat.add_comm, itr_add, h1.back]
  · rw [← itr_add, Nat.add_comm, itr_add] at e
    exact h.fp.itr_inj (h.fp.itr_lt hi j) hi k e
theorem pwA_per {i c : Nat} (hc : IsPer f i c) (hcp : perO f n i = c) (k : Nat) (e : Int) (he : ∃ q : Int, e = k + c * q) : pwA f n i e = itr f k i := by
  obtain ⟨q, rfl⟩ := he
  unfold pwA
  rw [hcp, Int.add_mul_emod_self_left, hc.mod k]
  congr 1
theorem pwA_zero (h : PAct g f n) {i : Nat} (hi : i < n) : pwA f n i 0 = i := pwA_per (perO_spec h.fp hi).1 rfl 0 0 ⟨0, by omega⟩
theorem pwA_one (h : PAct g f n) {i : Nat} (hi : i < n) : pwA f n i 1 = f i := pwA_per (perO_spec h.fp hi).1 rfl 1 1 ⟨0, by omega⟩
theorem pwA_add (h : PAct g f n) {i : Nat} (hi : i < n) (e e' : Int) : pwA f n (pwA f n i e) e' = pwA f n i (e + e') := by
  obtain ⟨h1, _⟩ := perO_spec h.fp hi
  have hp := per_on h hi (e % (perO f n i : Int)).toNat
  have hc := h1.pos
  have e1 : pwA f n (pwA f n i e) e' = itr f (e' % (perO f n i : Int)).toNat (itr f (e % (perO f n i : Int)).toNat i) := by
    show itr f (e' % (perO f n (itr f (e % (perO f n i : Int)).toNat i) : Int)).toNat _ = _
    rw [hp]; rfl
  rw [e1, ← itr_add]
  refine (pwA_per h1 rfl _ _ ⟨e / (perO f n i : Int) + e' / (perO f n i : Int), ?_⟩).symm
  have k1 := Int.mul_ediv_add_emod e (perO f n i : Int)
  have k2 := Int.mul_ediv_add_emod e' (perO f n i : Int)
  have k3 := Int.emod_nonneg e (show (perO f n i : Int) ≠ 0 by omega)
  have k4 := Int.emod_nonneg e' (show (perO f n i : Int) ≠ 0 by omega)
  rw [Int.mul_add, Int.natCast_add, Int.toNat_of_nonneg k3, Int.toNat_of_nonneg k4]
  omega
theorem pwA_back (h : PAct g f n) {i : Nat} (hi : i < n) : f (pwA f n i (-1)) = i := by
  have := pwA_add h hi (-1) 1
  rw [pwA_one h (pwA_lt h.fp hi _)] at this
  rw [this]; exact pwA_zero h hi
theorem pwA_forth (h : PAct g f n) {i : Nat} (hi : i < n) : pwA f n (f i) (-1) = i := by
  have := pwA_add h hi 1 (-1)
  rw [pwA_one h hi] at this
  rw [this]; exact pwA_zero h hi
/-- (ST)^3 = S^2. -/
def Rel (g f : Nat → Nat) (n : Nat) : Prop := ∀ i, i < n → f (g (f (g (f (g i))))) = g (g i)
theorem rel0 (h : PAct g f n) (hr : Rel g f n) {y : Nat} (hy : y < n) : f (g (f (g (f y)))) = g y := by
  have g1 := h.gp.lt y hy
  have g2 := h.gp.lt _ g1
  have := hr (g (g (g y))) (h.gp.lt _ g2)
  rw [h.zz y hy] at this
  rw [this]
theorem rel1 (h : PAct g f n) (hr : Rel g f n) {i : Nat} (hi : i < n) : g (f (g i)) = pwA f n (g (pwA f n i (-1))) (-1) := by
  have hy := pwA_lt h.fp hi (-1)
  have k := rel0 h hr hy
  rw [pwA_back h hi] at k
  rw [← k, pwA_forth h (h.gp.lt _ (h.fp.lt _ (h.gp.lt _ hi)))]
theorem rel2 (h : PAct g f n) (hr : Rel g f n) {i : Nat} (hi : i < n) : g (pwA f n (g i) (-1)) = f (zOf g (g (f i))) := by
  have gi := h.gp.lt i hi
  have k := rel0 h hr (pwA_lt h.fp gi (-1))
  rw [pwA_back h gi] at k
  rw [← k]
  have e1 : f (g (g i)) = g (g (f i)) := h.fc i hi
  rw [e1]
  rfl
/-- Where a matrix leads, by its nearest quotients. -/
def aw (g f : Nat → Nat) (n : Nat) : Nat → M → Nat → Nat
  | 0, _, i => i
  | k + 1, m, i => if m.c = 0 then (if m.a < 0 then zOf g (pwA f n i (m.a * m.b)) else pwA f n i (m.a * m.b)) else aw g f n k m.step (g (pwA f n i (nq m.a m.c)))
def Suf : Nat → M → Prop
  | 0, _ => False
  | k + 1, m => m.c = 0 ∨ Suf k m.step
theorem aw_suf : ∀ (k k' : Nat) (m : M) (i : Nat), Suf k m → Suf k' m → aw g f n k m i = aw g f n k' m i
  | 0, _, _, _, h, _ => h.elim
  | _ + 1, 0, _, _, _, h => h.elim
  | k + 1, k' + 1, m, i, h, h' => by
    show (if m.c = 0 then _ else aw g f n k m.step _) = if m.c = 0 then _ else aw g f n k' m.step _
    by_cases hc : m.c = 0
    · rw [if_pos hc, if_pos hc]
    · rw [if_neg hc, if_neg hc]
      exact aw_suf k k' m.step _ (h.resolve_left hc) (h'.resolve_left hc)
theorem suf_lt : ∀ (k : Nat) (m : M), m.c.natAbs < k → Suf k m
  | 0, m, h => by omega
  | k + 1, m, h => by
    by_cases hc : m.c = 0
    · exact .inl hc
    · have := M.step_c hc
      exact .inr (suf_lt k m.step (by omega))
theorem suf_way : ∀ (k : Nat) (m : M), Way k m → Suf k m
  | 0, m, h => by have := h.few; have e : (2 : Nat) ^ 0 = 1 := rfl; omega
  | k + 1, m, h => by
    by_cases hc : m.c = 0
    · exact .inl hc
    · exact .inr (suf_way k m.step (h.next hc))
def av (g f : Nat → Nat) (n : Nat) (m : M) (i : Nat) : Nat := aw g f n (m.c.natAbs + 1) m i
theorem av_any {k : Nat} {m : M} (h : Suf k m) (i : Nat) : aw g f n k m i = av g f n m i := aw_suf _ _ m i h (suf_lt _ m (by omega))
theorem av_last {m : M} (hc : m.c = 0) (i : Nat) : av g f n m i = if m.a < 0 then zOf g (pwA f n i (m.a * m.b)) else pwA f n i (m.a * m.b) := if_pos hc
theorem av_next {m : M} (hc : m.c ≠ 0) (i : Nat) : av g f n m i = av g f n m.step (g (pwA f n i (nq m.a m.c))) := by
  have : av g f n m i = aw g f n m.c.natAbs m.step (g (pwA f n i (nq m.a m.c))) := if_neg hc
  rw [this]
  exact av_any (suf_lt _ _ (by have := M.step_c hc; omega)) _
def tm (e : Int) (m : M) : M := ⟨m.a + e * m.c, m.b + e * m.d, m.c, m.d⟩
def sm (m : M) : M := ⟨-m.c, -m.d, m.a, m.b⟩
theorem tm_det {e : Int} {m : M} (h : m.det = 1) : (tm e m).det = 1 := by
  unfold M.det tm at *
  simp only [Int.add_mul]
  rw [Int.mul_assoc, Int.mul_assoc, Int.mul_comm m.d m.c]; omega
theorem sm_det {m : M} (h : m.det = 1) : (sm m).det = 1 := by
  unfold M.det sm at *
  simp only [Int.neg_mul]
  rw [Int.mul_comm m.c, Int.mul_comm m.d]; omega
theorem neg_det {m : M} (h : m.det = 1) : m.neg.det = 1 := by
  unfold M.det M.neg at *
  simp only [Int.neg_mul_neg]; exact h
theorem sm_sm (m : M) : sm (sm m) = m.neg := rfl
theorem av_T (h : PAct g f n) {m : M} (hd : m.det = 1) (e : Int) {i : Nat} (hi : i < n) : av g f n (tm e m) i = av g f n m (pwA f n i e) := by
  by_cases hc : m.c = 0
  · have hc' : (tm e m).c = 0 := hc
    rw [av_last hc', av_last hc]
    have ha : (tm e m).a = m.a := by show m.a + e * m.c = _; rw [hc]; omega
    have hb : (tm e m).a * (tm e m).b = e + m.a * m.b := by
      rw [ha]; show m.a * (m.b + e * m.d) = _
      have hd2 := M.last hd hc
      rcases hd2 with ⟨h1, h2⟩ | ⟨h1, h2⟩ <;> rw [h1, h2] <;> omega
    rw [hb, ha, pwA_add h hi]
  · have hc' : (tm e m).c ≠ 0 := hc
    rw [av_next hc', av_next hc]
    obtain ⟨h1, h2, h3⟩ := nr_spec m.a hc
    have hq : nq (tm e m).a (tm e m).c = nq m.a m.c + e := by
      refine (nq_of (r := nr m.a m.c) hc ?_ h1 h2).symm
      show m.a + e * m.c - (nq m.a m.c + e) * m.c = _
      rw [Int.add_mul]; omega
    have hs : (tm e m).step = m.step := by
      refine M.same rfl rfl ?_ ?_
      · show nq (tm e m).a (tm e m).c * m.c - (m.a + e * m.c) = nq m.a m.c * m.c - m.a
        rw [hq, Int.add_mul]; omega
      · show nq (tm e m).a (tm e m).c * m.d - (m.b + e * m.d) = nq m.a m.c * m.d - m.b
        rw [hq, Int.add_mul]; omega
    rw [hs, hq, pwA_add h hi, Int.add_comm]
/-- With the quotient 0. -/
theorem av_S (h : PAct g f n) {m : M} (ha : m.a ≠ 0) (hq : nq (-m.c) m.a = 0) {i : Nat} (hi : i < n) : av g f n (sm m) i = av g f n m (g i) := by
  have hc : (sm m).c ≠ 0 := ha
  rw [av_next hc]
  have e1 : nq (sm m).a (sm m).c = 0 := hq
  have e2 : (sm m).step = m := by
    refine M.same rfl rfl ?_ ?_
    · show nq (sm m).a (sm m).c * m.a - -m.c = m.c; rw [e1]; omega
    · show nq (sm m).a (sm m).c * m.b - -m.d = m.d; rw [e1]; omega
  rw [e1, e2, pwA_zero h hi]
def PP (g f : Nat → Nat) (n : Nat) (m : M) : Prop := ∀ i, i < n → av g f n (sm m) i = av g f n m (g i)
def QQ (g f : Nat → Nat) (n : Nat) (m : M) : Prop := ∀ i, i < n → av g f n m.neg i = av g f n m (zOf g i)
theorem qq_of (h : PAct g f n) {m : M} (h1 : PP g f n m) (h2 : PP g f n (sm m)) : QQ g f n m := fun i hi => by
  rw [← sm_sm, h2 i hi, h1 _ (h.gp.lt i hi)]; rfl
theorem tm_neg (e : Int) (m : M) : tm e m.neg = (tm e m).neg := by
  refine M.same ?_ ?_ rfl rfl
  · show -m.a + e * -m.c = -(m.a + e * m.c); rw [Int.mul_neg]; omega
  · show -m.b + e * -m.d = -(m.b + e * m.d); rw [Int.mul_neg]; omega
theorem tm_tm (e e' : Int) (m : M) : tm e (tm e' m) = tm (e + e') m := by
  refine M.same ?_ ?_ rfl rfl
  · show m.a + e' * m.c + e * m.c = m.a + (e + e') * m.c; rw [Int.add_mul]; omega
  · show m.b + e' * m.d + e * m.d = m.b + (e + e') * m.d; rw [Int.add_mul]; omega
theorem tm_zero (m : M) : tm 0 m = m := by
  refine M.same ?_ ?_ rfl rfl
  · show m.a + 0 * m.c = m.a; omega
  · show m.b + 0 * m.d = m.b; omega
theorem qq_shift (h : PAct g f n) {m : M} (hd : m.det = 1) (k : Int) (hq : QQ g f n (tm k m)) : QQ g f n m := fun i hi => by
  have e1 : m.neg = tm (-k) (tm k m).neg := by rw [tm_neg, tm_tm, show -k + k = 0 by omega, tm_zero]
  have e2 : av g f n m (zOf g i) = av g f n (tm k m) (pwA f n (zOf g i) (-k)) := by
    have := av_T h (tm_det (e := k) hd) (-k) (h.zl i hi)
    rw [tm_tm, show -k + k = 0 by omega, tm_zero] at this
    exact this
  rw [e1, av_T h (neg_det (tm_det hd)) _ hi, hq _ (pwA_lt h.fp hi _), e2, pwA_z h hi]
def mz (m : M) : Nat := m.a.natAbs + m.c.natAbs
theorem pp_all (h : PAct g f n) (hr : Rel g f n) : ∀ (N : Nat) (m : M), mz m ≤ N → m.det = 1 → PP g f n m
  | 0, m, hm, hd => by
    exfalso
    have h1 : m.a = 0 := by unfold mz at hm; omega
    have h2 : m.c = 0 := by unfold mz at hm; omega
    unfold M.det at hd
    rw [h1, h2] at hd
    simp at hd
  | N + 1, m, hm, hd => by
    have ih := fun (x : M) (hx : mz x ≤ N) (hdx : x.det = 1) => pp_all h hr N x hx hdx
    have iq := fun (x : M) (hx : mz x ≤ N) (hdx : x.det = 1) => qq_of h (ih x hx hdx) (ih (sm x) (by show (-x.c).natAbs + x.a.natAbs ≤ N; unfold mz at hx; omega) (sm_det hdx))
    have hmm : m.a.natAbs + m.c.natAbs ≤ N + 1 := hm
    -- the quotient of S m
    by_cases ha : m.a = 0
    · -- m.c is 1 or -1
      have hc : m.c ≠ 0 := fun e => by unfold M.det at hd; rw [ha, e] at hd; simp at hd
      have hq0 : nq m.a m.c = 0 := (nq_of (r := 0) hc (by rw [ha]; simp) (by omega) (by omega)).symm
      intro i hi
      have e1 : (sm m).c = 0 := ha
      rw [av_last e1, av_next hc]
      have e2 : m.step.c = 0 := by show nq m.a m.c * m.c - m.a = 0; rw [hq0, ha]; simp
      rw [av_last e2, hq0, pwA_zero h (h.gp.lt i hi)]
      show (if -m.c < 0 then zOf g (pwA f n i (-m.c * -m.d)) else pwA f n i (-m.c * -m.d)) = if m.c < 0 then zOf g (pwA f n (g (g i)) (m.c * m.d)) else pwA f n (g (g i)) (m.c * m.d)
      have e3 : pwA f n (g (g i)) (m.c * m.d) = zOf g (pwA f n i (m.c * m.d)) := pwA_z h hi _
      rw [Int.neg_mul_neg, e3]
      have hx := pwA_lt h.fp hi (m.c * m.d)
      by_cases hs : m.c < 0
      · rw [if_neg (by omega), if_pos hs]
        exact (h.zz _ hx).symm
      · rw [if_pos (by omega), if_neg hs]
    · by_cases hs0 : nq (-m.c) m.a = 0
      · exact fun i hi => av_S h ha hs0 hi
      · have hc : m.c ≠ 0 := fun e => hs0 (by rw [e]; exact (nq_of (r := 0) ha (by simp) (by omega) (by omega)).symm)
        -- the cases of the quotient of m
        have key : ∀ x : M, x.det = 1 → mz x ≤ N + 1 → x.a ≠ 0 → x.c ≠ 0 → nq x.a x.c = 1 ∨ nq x.a x.c = -1 → PP g f n x := by
          intro x hdx hmx hax hcx hqx i hi
          have hmx' : x.a.natAbs + x.c.natAbs ≤ N + 1 := hmx
          obtain ⟨k1, k2, k3⟩ := nr_spec x.a hcx
          rcases hqx with hqx | hqx
          · rw [hqx] at k3
            have hm3 : mz (⟨x.a, x.b, x.c - x.a, x.d - x.b⟩ : M) ≤ N := by show x.a.natAbs + (x.c - x.a).natAbs ≤ N; omega
            have hd3 : (⟨x.a, x.b, x.c - x.a, x.d - x.b⟩ : M).det = 1 := by
              unfold M.det at hdx ⊢
              show x.a * (x.d - x.b) - x.b * (x.c - x.a) = 1
              rw [Int.mul_sub, Int.mul_sub, Int.mul_comm x.b x.a]; omega
            have p3 := ih _ hm3 hd3
            have e1 : sm x = tm (-1) (sm ⟨x.a, x.b, x.c - x.a, x.d - x.b⟩) := by
              refine M.same ?_ ?_ rfl rfl
              · show -x.c = -(x.c - x.a) + -1 * x.a; omega
              · show -x.d = -(x.d - x.b) + -1 * x.b; omega
            have hi1 := pwA_lt h.fp hi (-1)
            rw [e1, av_T h (sm_det hd3) _ hi, p3 _ hi1]
            have e2 : (⟨x.a, x.b, x.c - x.a, x.d - x.b⟩ : M) = tm (-1) x.step := by
              refine M.same ?_ ?_ ?_ ?_
              · show x.a = x.c + -1 * (nq x.a x.c * x.c - x.a); rw [hqx]; omega
              · show x.b = x.d + -1 * (nq x.a x.c * x.d - x.b); rw [hqx]; omega
              · show x.c - x.a = nq x.a x.c * x.c - x.a; rw [hqx]; omega
              · show x.d - x.b = nq x.a x.c * x.d - x.b; rw [hqx]; omega
            rw [e2, av_T h (M.step_det hdx) _ (h.gp.lt _ hi1), av_next hcx, hqx, pwA_one h (h.gp.lt i hi), rel1 h hr hi]
          · rw [hqx] at k3
            have hm3 : mz (⟨x.a, x.b, x.a + x.c, x.b + x.d⟩ : M) ≤ N := by show x.a.natAbs + (x.a + x.c).natAbs ≤ N; omega
            have hd3 : (⟨x.a, x.b, x.a + x.c, x.b + x.d⟩ : M).det = 1 := by
              unfold M.det at hdx ⊢
              show x.a * (x.b + x.d) - x.b * (x.a + x.c) = 1
              rw [Int.mul_add, Int.mul_add, Int.mul_comm x.b x.a]; omega
            have p3 := ih _ hm3 hd3
            have e1 : sm x = tm 1 (sm ⟨x.a, x.b, x.a + x.c, x.b + x.d⟩) := by
              refine M.same ?_ ?_ rfl rfl
              · show -x.c = -(x.a + x.c) + 1 * x.a; omega
              · show -x.d = -(x.b + x.d) + 1 * x.b; omega
            have hi1 := h.fp.lt i hi
            rw [e1, av_T h (sm_det hd3) _ hi, pwA_one h hi, p3 _ hi1]
            have hd4 : (tm 1 x.step).det = 1 := tm_det (M.step_det hdx)
            have e2 : (⟨x.a, x.b, x.a + x.c, x.b + x.d⟩ : M) = (tm 1 x.step).neg := by
              refine M.same ?_ ?_ ?_ ?_
              · show x.a = -(x.c + 1 * (nq x.a x.c * x.c - x.a)); rw [hqx]; omega
              · show x.b = -(x.d + 1 * (nq x.a x.c * x.d - x.b)); rw [hqx]; omega
              · show x.a + x.c = -(nq x.a x.c * x.c - x.a); rw [hqx]; omega
              · show x.b + x.d = -(nq x.a x.c * x.d - x.b); rw [hqx]; omega
            have hm4 : mz (tm 1 x.step) ≤ N := by
              show (x.c + 1 * (nq x.a x.c * x.c - x.a)).natAbs + (nq x.a x.c * x.c - x.a).natAbs ≤ N
              rw [hqx]; omega
            have q4 := iq _ hm4 hd4
            have hgf := h.gp.lt _ hi1
            rw [e2, q4 _ hgf, av_T h (M.step_det hdx) _ (h.zl _ hgf), pwA_one h (h.zl _ hgf), av_next hcx, hqx, ← rel2 h hr hi]
        by_cases h1 : nq m.a m.c = 1 ∨ nq m.a m.c = -1
        · exact key m hd hm ha hc h1
        · obtain ⟨k1, k2, k3⟩ := nr_spec m.a hc
          by_cases h0 : nq m.a m.c = 0
          · -- m is S^-1 m behind S
            rw [h0] at k3
            intro i hi
            have hst : m.step = ⟨m.c, m.d, -m.a, -m.b⟩ := by
              refine M.same rfl rfl ?_ ?_
              · show nq m.a m.c * m.c - m.a = -m.a; rw [h0]; omega
              · show nq m.a m.c * m.d - m.b = -m.b; rw [h0]; omega
            rw [av_next hc, h0, pwA_zero h (h.gp.lt i hi), hst]
            have hna : -m.a ≠ 0 := by omega
            obtain ⟨j1, j2, j3⟩ := nr_spec m.c hna
            have hds : (⟨m.c, m.d, -m.a, -m.b⟩ : M).det = 1 := by rw [← hst]; exact M.step_det hd
            have q5 : QQ g f n (⟨m.c, m.d, -m.a, -m.b⟩ : M) := by
              refine qq_shift h hds (-(nq m.c (-m.a))) (iq _ ?_ (tm_det hds))
              show (m.c + -(nq m.c (-m.a)) * -m.a).natAbs + (-m.a).natAbs ≤ N
              have e : m.c + -(nq m.c (-m.a)) * -m.a = nr m.c (-m.a) := by rw [Int.neg_mul]; omega
              rw [e]; omega
            have := q5 i hi
            have e6 : (⟨m.c, m.d, -m.a, -m.b⟩ : M).neg = sm m := M.same rfl rfl (by show - -m.a = m.a; omega) (by show - -m.b = m.b; omega)
            rw [e6] at this
            rw [this]; rfl
          · -- the quotient is 2 or more: S m has the quotient 1 or -1
            have hbig : 3 * m.c.natAbs ≤ 2 * m.a.natAbs := by
              have e1 : (nq m.a m.c * m.c).natAbs = (nq m.a m.c).natAbs * m.c.natAbs := Int.natAbs_mul _ _
              have e2 : 2 * m.c.natAbs ≤ (nq m.a m.c).natAbs * m.c.natAbs := Nat.mul_le_mul_right _ (by omega)
              generalize nq m.a m.c * m.c = p at *
              omega
            have hsq : nq (-m.c) m.a = 1 ∨ nq (-m.c) m.a = -1 := by
              obtain ⟨j1, j2, j3⟩ := nr_spec (-m.c) ha
              have e1 : (nq (-m.c) m.a * m.a).natAbs = (nq (-m.c) m.a).natAbs * m.a.natAbs := Int.natAbs_mul _ _
              rcases Nat.lt_or_ge (nq (-m.c) m.a).natAbs 2 with h5 | h5
              · omega
              · have e2 : 2 * m.a.natAbs ≤ (nq (-m.c) m.a).natAbs * m.a.natAbs := Nat.mul_le_mul_right _ h5
                exfalso
                generalize nq (-m.c) m.a * m.a = p at *
                omega
            have pS := key (sm m) (sm_det hd) (by show (-m.c).natAbs + m.a.natAbs ≤ N + 1; omega) (by show -m.c ≠ 0; omega) ha hsq
            have qm : QQ g f n m := by
              refine qq_shift h hd (-(nq m.a m.c)) (iq _ ?_ (tm_det hd))
              show (m.a + -(nq m.a m.c) * m.c).natAbs + m.c.natAbs ≤ N
              have e : m.a + -(nq m.a m.c) * m.c = nr m.a m.c := by rw [Int.neg_mul]; omega
              rw [e]; omega
            intro i hi
            -- i is g of something
            have g1 := h.gp.lt i hi
            have g2 := h.gp.lt _ g1
            have g3 := h.gp.lt _ g2
            have a1 := pS _ g3
            rw [h.zz i hi, sm_sm, qm _ g3] at a1
            rw [← a1]
            have e7 : zOf g (g (g (g i))) = g i := by show g (g (g (g (g i)))) = g i; rw [h.zz _ g1]
            rw [e7]
theorem pp (h : PAct g f n) (hr : Rel g f n) {m : M} (hd : m.det = 1) : PP g f n m := pp_all h hr (mz m) m (Nat.le_refl _) hd
theorem qq (h : PAct g f n) (hr : Rel g f n) {m : M} (hd : m.det = 1) : QQ g f n m := qq_of h (pp h hr hd) (pp h hr (sm_det hd))
/-- SL2(Z) acts. -/
theorem av_mul (h : PAct g f n) (hr : Rel g f n) (y : M) (hy : y.det = 1) : ∀ (N : Nat) (x : M), x.c.natAbs ≤ N → x.det = 1 → ∀ i, i < n → av g f n (x.mul y) i = av g f n y (av g f n x i)
  | N, x, hx, hdx, i, hi => by
    by_cases hc : x.c = 0
    · rw [av_last hc]
      have hxx := pwA_lt h.fp hi (x.a * x.b)
      rcases M.last hdx hc with ⟨h1, h2⟩ | ⟨h1, h2⟩
      · have e : x.mul y = tm (x.a * x.b) y := by
          refine M.same ?_ ?_ ?_ ?_
          · show x.a * y.a + x.b * y.c = y.a + x.a * x.b * y.c; rw [h1]; simp
          · show x.a * y.b + x.b * y.d = y.b + x.a * x.b * y.d; rw [h1]; simp
          · show x.c * y.a + x.d * y.c = y.c; rw [hc, h2]; omega
          · show x.c * y.b + x.d * y.d = y.d; rw [hc, h2]; omega
        rw [if_neg (by omega), e, av_T h hy _ hi]
      · have e : x.mul y = tm (x.a * x.b) y.neg := by
          refine M.same ?_ ?_ ?_ ?_
          · show x.a * y.a + x.b * y.c = -y.a + x.a * x.b * -y.c; rw [h1]; simp only [Int.neg_mul, Int.one_mul, Int.mul_neg, Int.neg_neg]
          · show x.a * y.b + x.b * y.d = -y.b + x.a * x.b * -y.d; rw [h1]; simp only [Int.neg_mul, Int.one_mul, Int.mul_neg, Int.neg_neg]
          · show x.c * y.a + x.d * y.c = -y.c; rw [hc, h2]; omega
          · show x.c * y.b + x.d * y.d = -y.d; rw [hc, h2]; omega
        rw [if_pos (by omega), e, av_T h (neg_det hy) _ hi, qq h hr hy _ hxx]
    · have hs := M.step_c hc
      have hds := M.step_det hdx
      have hdm : (x.step.mul y).det = 1 := by rw [M.det_mul, hds, hy]; rfl
      have e : x.mul y = tm (nq x.a x.c) (sm (x.step.mul y)) := by
        have e0 := M.step_eq x
        refine M.same ?_ ?_ ?_ ?_
        · show x.a * y.a + x.b * y.c = -((nq x.a x.c * x.c - x.a) * y.a + (nq x.a x.c * x.d - x.b) * y.c) + nq x.a x.c * (x.c * y.a + x.d * y.c)
          rw [Int.sub_mul, Int.sub_mul, Int.mul_add, Int.mul_assoc, Int.mul_assoc]; omega
        · show x.a * y.b + x.b * y.d = -((nq x.a x.c * x.c - x.a) * y.b + (nq x.a x.c * x.d - x.b) * y.d) + nq x.a x.c * (x.c * y.b + x.d * y.d)
          rw [Int.sub_mul, Int.sub_mul, Int.mul_add, Int.mul_assoc, Int.mul_assoc]; omega
        · rfl
        · rfl
      have hp := pwA_lt h.fp hi (nq x.a x.c)
      obtain ⟨N', rfl⟩ : ∃ N', N = N' + 1 := ⟨N - 1, by omega⟩
      rw [e, av_T h (sm_det hdm) _ hi, pp h hr hdm _ hp, av_mul h hr y hy N' x.step (by omega) hds _ (h.gp.lt _ hp), av_next hc]
termination_by N => N
end
end Go.Proofs.Ytmikhkolbkdnpaa
