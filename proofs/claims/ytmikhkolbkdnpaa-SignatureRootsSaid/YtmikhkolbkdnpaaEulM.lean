/- Plain mathematics: classes of an equivalence counted, cycles under a transposition, and the Euler characteristic of a transitive action (Riemann and Hurwitz): even, at most 2. -/
import Derived.Test.YtmikhkolbkdnpaaClsM
namespace Go.Proofs.Ytmikhkolbkdnpaa
set_option linter.unusedVariables false

/-- R is an equivalence on the points below n. -/
structure Eqv (R : Nat → Nat → Prop) (n : Nat) : Prop where
  refl : ∀ i, i < n → R i i
  symm : ∀ i j, i < n → j < n → R i j → R j i
  trans : ∀ i j k, i < n → j < n → k < n → R i j → R j k → R i k
/-- m is the number of classes: L has one point of each. -/
structure Reps (R : Nat → Nat → Prop) (n : Nat) (L : List Nat) : Prop where
  lt : ∀ x ∈ L, x < n
  nd : L.Nodup
  one : ∀ x ∈ L, ∀ y ∈ L, R x y → x = y
  all : ∀ i, i < n → ∃ x ∈ L, R x i
def IsCls (R : Nat → Nat → Prop) (n m : Nat) : Prop := ∃ L, Reps R n L ∧ L.length = m
theorem nodup_map_on {g : Nat → Nat} : ∀ {L : List Nat}, L.Nodup → (∀ x ∈ L, ∀ y ∈ L, g x = g y → x = y) → (L.map g).Nodup
  | [], _, _ => by simp
  | a :: L, hd, h => by
    rw [List.nodup_cons] at hd
    rw [List.map_cons, List.nodup_cons]
    refine ⟨fun hm => ?_, nodup_map_on hd.2 fun x hx y hy => h x (by simp [hx]) y (by simp [hy])⟩
    obtain ⟨b, hb, e⟩ := List.mem_map.1 hm
    have := h b (by simp [hb]) a (by simp) e
    subst this
    exact hd.1 hb
/-- Points of different classes of R, carried to points of different classes of Q, are no more than Q has classes. -/
theorem reps_le {R Q : Nat → Nat → Prop} {n m : Nat} {L M : List Nat} (hQ : Eqv Q m) (hL : Reps R n L) (hM : Reps Q m M) (φ : Nat → Nat) (hφ : ∀ i, i < n → φ i < m) (h : ∀ i j, i < n → j < n → Q (φ i) (φ j) → R i j) : L.length ≤ M.length := by
  have key : ∀ x, ∃ y, x ∈ L → y ∈ M ∧ Q y (φ x) := fun x => by
    by_cases hx : x ∈ L
    · obtain ⟨y, hy, hq⟩ := hM.all (φ x) (hφ x (hL.lt x hx))
      exact ⟨y, fun _ => ⟨hy, hq⟩⟩
    · exact ⟨0, fun h => absurd h hx⟩
  have hg := fun x => Classical.choose_spec (key x)
  generalize hgd : (fun x => Classical.choose (key x)) = g
  have hg : ∀ x, x ∈ L → g x ∈ M ∧ Q (g x) (φ x) := fun x => by rw [← hgd]; exact hg x
  have hd : (L.map g).Nodup := nodup_map_on hL.nd fun x hx y hy e => by
    have h1 := hg x hx
    have h2 := hg y hy
    rw [← e] at h2
    have l1 := hφ x (hL.lt x hx)
    have l2 := hφ y (hL.lt y hy)
    have l3 := hM.lt _ h1.1
    exact hL.one x hx y hy (h x y (hL.lt x hx) (hL.lt y hy) (hQ.trans _ _ _ l1 l3 l2 (hQ.symm _ _ l3 l1 h1.2) h2.2))
  have := List.Nodup.length_le_of_subset (l₂ := M) hd fun y hy => by
    obtain ⟨x, hx, rfl⟩ := List.mem_map.1 hy
    exact (hg x hx).1
  simpa using this
theorem IsCls.uniq {R : Nat → Nat → Prop} {n a b : Nat} (hR : Eqv R n) (h : IsCls R n a) (h' : IsCls R n b) : a = b := by
  obtain ⟨L, hL, rfl⟩ := h
  obtain ⟨M, hM, rfl⟩ := h'
  exact Nat.le_antisymm (reps_le hR hL hM id (fun i h => h) fun i j _ _ h => h) (reps_le hR hM hL id (fun i h => h) fun i j _ _ h => h)
/-- A map onto, under which both relations are the same: as many classes. -/
theorem IsCls.map {R Q : Nat → Nat → Prop} {n m a b : Nat} (hR : Eqv R n) (hQ : Eqv Q m) (h : IsCls R n a) (h' : IsCls Q m b) (φ : Nat → Nat) (hφ : ∀ i, i < n → φ i < m) (hon : ∀ j, j < m → ∃ i, i < n ∧ φ i = j) (hiff : ∀ i j, i < n → j < n → (R i j ↔ Q (φ i) (φ j))) : a = b := by
  obtain ⟨L, hL, rfl⟩ := h
  obtain ⟨M, hM, rfl⟩ := h'
  refine Nat.le_antisymm (reps_le hQ hL hM φ hφ fun i j hi hj h => (hiff i j hi hj).2 h) ?_
  have key : ∀ j, ∃ i, j < m → i < n ∧ φ i = j := fun j => by
    by_cases hj : j < m
    · obtain ⟨i, h⟩ := hon j hj
      exact ⟨i, fun _ => h⟩
    · exact ⟨0, fun h => absurd h hj⟩
  have hg := fun x => Classical.choose_spec (key x)
  generalize hgd : (fun x => Classical.choose (key x)) = ψ
  have hg : ∀ j, j < m → ψ j < n ∧ φ (ψ j) = j := fun x => by rw [← hgd]; exact hg x
  refine reps_le hR hM hL ψ (fun j hj => (hg j hj).1) fun i j hi hj h => ?_
  have := (hiff _ _ (hg i hi).1 (hg j hj).1).1 h
  rwa [(hg i hi).2, (hg j hj).2] at this
theorem IsCls.congr {R Q : Nat → Nat → Prop} {n a : Nat} (h : IsCls R n a) (e : ∀ i j, i < n → j < n → (R i j ↔ Q i j)) : IsCls Q n a := by
  obtain ⟨L, hL, rfl⟩ := h
  refine ⟨L, ⟨hL.lt, hL.nd, fun x hx y hy h => hL.one x hx y hy ((e x y (hL.lt x hx) (hL.lt y hy)).2 h), fun i hi => ?_⟩, rfl⟩
  obtain ⟨x, hx, h⟩ := hL.all i hi
  exact ⟨x, hx, (e x i (hL.lt x hx) hi).1 h⟩
theorem reps_upto {R : Nat → Nat → Prop} {n : Nat} (hR : Eqv R n) : ∀ k, k ≤ n → ∃ L : List Nat, (∀ x ∈ L, x < n) ∧ L.Nodup ∧ (∀ x ∈ L, ∀ y ∈ L, R x y → x = y) ∧ ∀ i, i < k → ∃ x ∈ L, R x i
  | 0, _ => ⟨[], by simp, by simp, by simp, fun i h => by omega⟩
  | k + 1, hk => by
    obtain ⟨L, h1, h2, h3, h4⟩ := reps_upto hR k (by omega)
    by_cases h : ∃ x ∈ L, R x k
    · refine ⟨L, h1, h2, h3, fun i hi => ?_⟩
      rcases Nat.lt_or_ge i k with h5 | h5
      · exact h4 i h5
      · rw [show i = k by omega]; exact h
    · refine ⟨k :: L, ?_, ?_, ?_, fun i hi => ?_⟩
      · intro x hx
        rcases List.mem_cons.1 hx with rfl | hx
        · omega
        · exact h1 x hx
      · rw [List.nodup_cons]
        exact ⟨fun hm => h ⟨k, hm, hR.refl k (by omega)⟩, h2⟩
      · intro x hx y hy hr
        rcases List.mem_cons.1 hx with ex | hx1 <;> rcases List.mem_cons.1 hy with ey | hy1
        · rw [ex, ey]
        · exact absurd ⟨y, hy1, hR.symm _ _ (by omega) (h1 y hy1) (ex ▸ hr)⟩ h
        · exact absurd ⟨x, hx1, ey ▸ hr⟩ h
        · exact h3 x hx1 y hy1 hr
      · rcases Nat.lt_or_ge i k with h5 | h5
        · obtain ⟨x, hx, hr⟩ := h4 i h5
          exact ⟨x, by simp [hx], hr⟩
        · exact ⟨k, by simp, by rw [show i = k by omega]; exact hR.refl k (by omega)⟩
theorem cls_ex {R : Nat → Nat → Prop} {n : Nat} (hR : Eqv R n) : ∃ m, IsCls R n m := by
  obtain ⟨L, h1, h2, h3, h4⟩ := reps_upto hR n (Nat.le_refl n)
  exact ⟨_, L, ⟨h1, h2, h3, h4⟩, rfl⟩
/-- The classes of a and of b as one. -/
def mrg (R : Nat → Nat → Prop) (a b i j : Nat) : Prop := R i j ∨ (R i a ∧ R b j) ∨ (R i b ∧ R a j)
theorem mrg_eqv {R : Nat → Nat → Prop} {n a b : Nat} (hR : Eqv R n) (ha : a < n) (hb : b < n) : Eqv (mrg R a b) n where
  refl i hi := .inl (hR.refl i hi)
  symm i j hi hj h := by
    rcases h with h | ⟨h, h'⟩ | ⟨h, h'⟩
    · exact .inl (hR.symm i j hi hj h)
    · exact .inr (.inr ⟨hR.symm _ _ hb hj h', hR.symm _ _ hi ha h⟩)
    · exact .inr (.inl ⟨hR.symm _ _ ha hj h', hR.symm _ _ hi hb h⟩)
  trans i j k hi hj hk h h' := by
    have t := fun {x y z : Nat} (hx : x < n) (hy : y < n) (hz : z < n) => hR.trans x y z hx hy hz
    have s := fun {x y : Nat} (hx : x < n) (hy : y < n) => hR.symm x y hx hy
    rcases h with h | ⟨h, h1⟩ | ⟨h, h1⟩ <;> rcases h' with h' | ⟨h', h2⟩ | ⟨h', h2⟩
    · exact .inl (t hi hj hk h h')
    · exact .inr (.inl ⟨t hi hj ha h h', h2⟩)
    · exact .inr (.inr ⟨t hi hj hb h h', h2⟩)
    · exact .inr (.inl ⟨h, t hb hj hk h1 h'⟩)
    · exact .inr (.inl ⟨h, h2⟩)
    · exact .inl (t hi ha hk h h2)
    · exact .inr (.inr ⟨h, t ha hj hk h1 h'⟩)
    · exact .inl (t hi hb hk h h2)
    · exact .inr (.inr ⟨h, h2⟩)
theorem mrg_same {R : Nat → Nat → Prop} {n a b : Nat} (hR : Eqv R n) (ha : a < n) (hb : b < n) (hab : R a b) (i j : Nat) (hi : i < n) (hj : j < n) : mrg R a b i j ↔ R i j := by
  refine ⟨fun h => ?_, .inl⟩
  rcases h with h | ⟨h, h'⟩ | ⟨h, h'⟩
  · exact h
  · exact hR.trans _ _ _ hi ha hj h (hR.trans _ _ _ ha hb hj hab h')
  · exact hR.trans _ _ _ hi hb hj h (hR.trans _ _ _ hb ha hj (hR.symm _ _ ha hb hab) h')
/-- Two classes made one: one class less. -/
theorem mrg_cls {R : Nat → Nat → Prop} {n a b m : Nat} (hR : Eqv R n) (ha : a < n) (hb : b < n) (hab : ¬ R a b) (h : IsCls R n m) : ∃ k, m = k + 1 ∧ IsCls (mrg R a b) n k := by
  obtain ⟨L, hL, rfl⟩ := h
  obtain ⟨y, hy, hyb⟩ := hL.all b hb
  have hyn := hL.lt y hy
  have hp : 0 < L.length := List.length_pos_of_mem hy
  refine ⟨L.length - 1, by omega, L.erase y, ⟨fun x hx => hL.lt x (List.mem_of_mem_erase hx), hL.nd.erase y, fun x hx z hz hr => ?_, fun i hi => ?_⟩, List.length_erase_of_mem hy⟩
  · rw [hL.nd.mem_erase_iff] at hx hz
    have xn := hL.lt x hx.2
    have zn := hL.lt z hz.2
    rcases hr with h | ⟨_, h⟩ | ⟨h, _⟩
    · exact hL.one x hx.2 z hz.2 h
    · exact absurd (hL.one z hz.2 y hy (hR.trans _ _ _ zn hb hyn (hR.symm _ _ hb zn h) (hR.symm _ _ hyn hb hyb))) hz.1
    · exact absurd (hL.one x hx.2 y hy (hR.trans _ _ _ xn hb hyn h (hR.symm _ _ hyn hb hyb))) hx.1
  · obtain ⟨x, hx, hr⟩ := hL.all i hi
    by_cases e : x = y
    · subst e
      obtain ⟨z, hz, hza⟩ := hL.all a ha
      refine ⟨z, hL.nd.mem_erase_iff.2 ⟨?_, hz⟩, .inr (.inl ⟨hza, hR.trans _ _ _ hb hyn hi (hR.symm _ _ hyn hb hyb) hr⟩)⟩
      rintro rfl
      exact hab (hR.trans _ _ _ ha hyn hb (hR.symm _ _ hyn ha hza) hyb)
    · exact ⟨x, hL.nd.mem_erase_iff.2 ⟨e, hx⟩, .inl hr⟩
theorem onC_eqv {f : Nat → Nat} {n : Nat} (hp : Prm f n) : Eqv (onC f) n := ⟨fun i _ => onC_refl f i, fun i j hi _ h => onC_symm hp hi h, fun i j k _ _ _ h h' => onC_trans h h'⟩
/-- a and b changed for each other. -/
def swp (a b i : Nat) : Nat := if i = a then b else if i = b then a else i
theorem swp_a (a b : Nat) : swp a b a = b := if_pos rfl
theorem swp_b (a b : Nat) : swp a b b = a := by unfold swp; split; (rename_i h; exact h); rw [if_pos rfl]
theorem swp_o {a b i : Nat} (h : i ≠ a) (h' : i ≠ b) : swp a b i = i := by unfold swp; rw [if_neg h, if_neg h']
theorem swp_swp (a b i : Nat) : swp a b (swp a b i) = i := by
  by_cases h : i = a
  · subst h; rw [swp_a, swp_b]
  · by_cases h' : i = b
    · subst h'; rw [swp_b, swp_a]
    · rw [swp_o h h', swp_o h h']
theorem swp_prm {f : Nat → Nat} {n a b : Nat} (hp : Prm f n) (ha : a < n) (hb : b < n) : Prm (fun i => f (swp a b i)) n := by
  have hl : ∀ i, i < n → swp a b i < n := fun i hi => by unfold swp; split; (exact hb); split; (exact ha); exact hi
  refine ⟨fun i hi => hp.lt _ (hl i hi), fun i j hi hj e => ?_⟩
  have := hp.inj _ _ (hl i hi) (hl j hj) e
  rw [← swp_swp a b i, this, swp_swp]
/-- From a the changed map runs along the cycle of b up to b. -/
theorem run_b {f : Nat → Nat} {a b c : Nat} (hc : IsPer f b c) (hab : ¬ onC f b a) : ∀ k, 1 ≤ k → k ≤ c → itr (fun i => f (swp a b i)) k a = itr f k b
  | 0, h, _ => by omega
  | 1, _, _ => by show f (swp a b a) = f b; rw [swp_a]
  | k + 2, _, hk => by
    show f (swp a b (itr (fun i => f (swp a b i)) (k + 1) a)) = f (itr f (k + 1) b)
    rw [run_b hc hab (k + 1) (by omega) (by omega), swp_o (fun e => hab ⟨k + 1, e⟩) (hc.least (k + 1) (by omega) (by omega))]
theorem run_on {f : Nat → Nat} {n a b j : Nat} (hp : Prm f n) (hb : b < n) (hab : ¬ onC f b a) (h : onC f b j) : onC (fun i => f (swp a b i)) a j := by
  obtain ⟨c, _, hc⟩ := per_ex hp hb
  obtain ⟨k, hk⟩ := h
  rw [hc.mod] at hk
  have hm := Nat.mod_lt k hc.pos
  rcases Nat.eq_zero_or_pos (k % c) with h0 | h0
  · rw [h0] at hk
    refine ⟨c, ?_⟩
    rw [run_b hc hab c hc.pos (Nat.le_refl c), hc.back]
    exact hk
  · exact ⟨k % c, by rw [run_b hc hab _ h0 (by omega)]; exact hk⟩
theorem swp_comm (a b i : Nat) : swp a b i = swp b a i := by
  by_cases h : i = a
  · subst h; rw [swp_a, swp_b]
  · by_cases h' : i = b
    · subst h'; rw [swp_a, swp_b]
    · rw [swp_o h h', swp_o h' h]
/-- Different cycles are made one. -/
theorem swp_merge {f : Nat → Nat} {n a b : Nat} (hp : Prm f n) (ha : a < n) (hb : b < n) (hab : ¬ onC f a b) (i j : Nat) (hi : i < n) (hj : j < n) : onC (fun i => f (swp a b i)) i j ↔ mrg (onC f) a b i j := by
  have hR := onC_eqv hp
  have hM := mrg_eqv hR ha hb
  have hq := swp_prm hp ha hb
  have hQ := onC_eqv hq
  have hba : ¬ onC f b a := fun h => hab (onC_symm hp hb h)
  have toA : ∀ x, x < n → onC f b x → onC (fun i => f (swp a b i)) a x := fun x _ h => run_on hp hb hba h
  have toB : ∀ x, x < n → onC f a x → onC (fun i => f (swp a b i)) b x := fun x _ h => by
    have := run_on hp ha hab h
    rwa [show (fun i => f (swp b a i)) = fun i => f (swp a b i) from funext fun i => by rw [swp_comm]] at this
  have ab : onC (fun i => f (swp a b i)) a b := toA b hb (onC_refl f b)
  constructor
  · rintro ⟨k, hk⟩
    induction k generalizing j with
    | zero => exact .inl ⟨0, hk⟩
    | succ k ih =>
      have hx := hq.itr_lt hi k
      refine hM.trans _ _ _ hi hx hj (ih _ hx rfl) ?_
      have hk' : f (swp a b (itr (fun i => f (swp a b i)) k i)) = j := hk
      generalize itr (fun i => f (swp a b i)) k i = x at *
      by_cases h1 : x = a
      · subst h1; rw [swp_a] at hk'; exact .inr (.inl ⟨onC_refl f _, ⟨1, hk'⟩⟩)
      · by_cases h2 : x = b
        · subst h2; rw [swp_b] at hk'; exact .inr (.inr ⟨onC_refl f _, ⟨1, hk'⟩⟩)
        · rw [swp_o h1 h2] at hk'; exact .inl ⟨1, hk'⟩
  · have base : ∀ x y, x < n → y < n → onC f x y → onC (fun i => f (swp a b i)) x y := fun x y hx hy h => by
      by_cases h1 : onC f a x
      · exact hQ.trans _ _ _ hx hb hy (hQ.symm _ _ hb hx (toB x hx h1)) (toB y hy (onC_trans h1 h))
      · by_cases h2 : onC f b x
        · exact hQ.trans _ _ _ hx ha hy (hQ.symm _ _ ha hx (toA x hx h2)) (toA y hy (onC_trans h2 h))
        · obtain ⟨k, rfl⟩ := h
          have : ∀ k, itr (fun i => f (swp a b i)) k x = itr f k x := fun k => by
            induction k with
            | zero => rfl
            | succ k ih =>
              show f (swp a b (itr (fun i => f (swp a b i)) k x)) = f (itr f k x)
              rw [ih, swp_o (fun e => h1 (onC_symm hp hx ⟨k, e⟩)) (fun e => h2 (onC_symm hp hx ⟨k, e⟩))]
          exact ⟨k, this k⟩
    rintro (h | ⟨h, h'⟩ | ⟨h, h'⟩)
    · exact base _ _ hi hj h
    · exact hQ.trans _ _ _ hi ha hj (base _ _ hi ha h) (toA j hj h')
    · exact hQ.trans _ _ _ hi hb hj (base _ _ hi hb h) (toB j hj h')
/-- One cycle falls into two. -/
theorem swp_split {f : Nat → Nat} {n a b : Nat} (hp : Prm f n) (ha : a < n) (hb : b < n) (hne : a ≠ b) (hab : onC f a b) : ¬ onC (fun i => f (swp a b i)) a b := by
  obtain ⟨c, _, hc⟩ := per_ex hp ha
  obtain ⟨k, hk⟩ := hab
  rw [hc.mod] at hk
  have hm := Nat.mod_lt k hc.pos
  generalize k % c = k at *
  have hk0 : k ≠ 0 := fun e => by subst e; exact hne hk
  have run : ∀ j, 1 ≤ j → j ≤ c - k → itr (fun i => f (swp a b i)) j a = itr f (k + j) a := fun j => by
    induction j with
    | zero => intro h; omega
    | succ j ih =>
      intro _ hj
      show f (swp a b (itr (fun i => f (swp a b i)) j a)) = f (itr f (k + j) a)
      rcases Nat.eq_zero_or_pos j with h0 | h0
      · subst h0
        show f (swp a b a) = f (itr f (k + 0) a)
        rw [swp_a, Nat.add_zero, hk]
      · rw [ih h0 (by omega), swp_o (hc.least _ (by omega) (by omega)) (fun e => ?_)]
        have h2 : itr f (k + j + (c - k)) a = a := by rw [itr_add, e, ← hk, ← itr_add, show k + (c - k) = c by omega, hc.back]
        rw [show k + j + (c - k) = c + j by omega, itr_add, hc.back] at h2
        exact hc.least j h0 (by omega) h2
  have hback : itr (fun i => f (swp a b i)) (c - k) a = a := by rw [run _ (by omega) (Nat.le_refl _), show k + (c - k) = c by omega, hc.back]
  rintro ⟨m, hmm⟩
  have hmul : ∀ q, itr (fun i => f (swp a b i)) ((c - k) * q) a = a := fun q => by
    induction q with
    | zero => rfl
    | succ q ih => rw [Nat.mul_succ, itr_add, ih, hback]
  have h3 := itr_add (fun i => f (swp a b i)) a ((c - k) * (m / (c - k))) (m % (c - k))
  rw [Nat.div_add_mod, hmul, hmm] at h3
  have hml : m % (c - k) < c - k := Nat.mod_lt _ (by omega)
  generalize m % (c - k) = r at *
  rcases Nat.eq_zero_or_pos r with h0 | h0
  · subst h0; exact hne h3.symm
  · rw [run r h0 (by omega)] at h3
    have h2 : itr f (k + r + (c - k)) a = a := by rw [itr_add, ← h3, ← hk, ← itr_add, show k + (c - k) = c by omega, hc.back]
    rw [show k + r + (c - k) = c + r by omega, itr_add, hc.back] at h2
    exact hc.least r h0 (by omega) h2
/-- The involution g on the pairs whose lesser point is below k. -/
def sK (g : Nat → Nat) (k i : Nat) : Nat := if min i (g i) < k then g i else i
def qK (g : Nat → Nat) : Nat → Nat
  | 0 => 0
  | k + 1 => qK g k + (if k < g k then 1 else 0)
structure Ivl (g : Nat → Nat) (n : Nat) : Prop where
  lt : ∀ i, i < n → g i < n
  inv : ∀ i, i < n → g (g i) = i
section
variable {g f : Nat → Nat} {n : Nat}
theorem sK_zero (g : Nat → Nat) (i : Nat) : sK g 0 i = i := if_neg (by omega)
theorem sK_full (h : Ivl g n) {i : Nat} (hi : i < n) : sK g n i = g i := if_pos (by omega)
theorem sK_lt (h : Ivl g n) {k i : Nat} (hi : i < n) : sK g k i < n := by
  unfold sK; split
  · exact h.lt i hi
  · exact hi
theorem sK_inv (h : Ivl g n) {k i : Nat} (hi : i < n) : sK g k (sK g k i) = i := by
  unfold sK
  by_cases e : min i (g i) < k
  · rw [if_pos e, h.inv i hi, if_pos (by omega)]
  · rw [if_neg e, if_neg e]
theorem sK_swp (h : Ivl g n) {k i : Nat} (hk : k < n) (hi : i < n) (hlt : k < g k) : sK g (k + 1) i = sK g k (swp k (g k) i) := by
  by_cases h1 : i = k
  · subst h1
    rw [swp_a]
    unfold sK
    rw [if_pos (by omega), h.inv i hi, if_neg (by omega)]
  · by_cases h2 : i = g k
    · subst h2
      rw [swp_b]
      unfold sK
      rw [h.inv k hk, if_pos (by omega), if_neg (by omega)]
    · rw [swp_o h1 h2]
      unfold sK
      have h3 : g i ≠ k := fun e => h2 (by rw [← e, h.inv i hi])
      by_cases e : min i (g i) < k
      · rw [if_pos e, if_pos (by omega)]
      · rw [if_neg e, if_neg (by omega)]
theorem sK_same (h : Ivl g n) {k i : Nat} (hk : k < n) (hi : i < n) (hlt : ¬ k < g k) : sK g (k + 1) i = sK g k i := by
  unfold sK
  by_cases e : min i (g i) < k
  · rw [if_pos e, if_pos (by omega)]
  · rw [if_neg e]
    by_cases e2 : min i (g i) < k + 1
    · rw [if_pos e2]
      by_cases h1 : i = k
      · subst h1; omega
      · have h3 : g i = k := by omega
        have : g k = i := by rw [← h3, h.inv i hi]
        omega
    · rw [if_neg e2]
theorem prm_congr {f f' : Nat → Nat} (hp : Prm f n) (e : ∀ i, i < n → f i = f' i) : Prm f' n :=
  ⟨fun i hi => by rw [← e i hi]; exact hp.lt i hi, fun i j hi hj h => hp.inj i j hi hj (by rw [e i hi, e j hj]; exact h)⟩
theorem itr_congr {f f' : Nat → Nat} (hp : Prm f n) (e : ∀ i, i < n → f i = f' i) {i : Nat} (hi : i < n) : ∀ k, itr f k i = itr f' k i
  | 0 => rfl
  | k + 1 => by
    show f (itr f k i) = f' (itr f' k i)
    rw [← itr_congr hp e hi k, e _ (hp.itr_lt hi k)]
theorem onC_congr {f f' : Nat → Nat} (hp : Prm f n) (e : ∀ i, i < n → f i = f' i) (i j : Nat) (hi : i < n) (_ : j < n) : onC f i j ↔ onC f' i j :=
  ⟨fun ⟨k, h⟩ => ⟨k, by rw [← itr_congr hp e hi]; exact h⟩, fun ⟨k, h⟩ => ⟨k, by rw [itr_congr hp e hi]; exact h⟩⟩
theorem sK_prm (h : Ivl g n) (hf : Prm f n) (k : Nat) : Prm (fun i => f (sK g k i)) n := by
  refine ⟨fun i hi => hf.lt _ (sK_lt h hi), fun i j hi hj e => ?_⟩
  have := hf.inj _ _ (sK_lt h hi) (sK_lt h hj) e
  rw [← sK_inv h (k := k) hi, this, sK_inv h hj]
/-- What the pairs put together so far: E says which points they and f connect. -/
structure Rie (g f : Nat → Nat) (n c0 k c e : Nat) (E : Nat → Nat → Prop) : Prop where
  cc : IsCls (onC fun i => f (sK g k i)) n c
  ce : IsCls E n e
  eq : Eqv E n
  sub : ∀ i j, i < n → j < n → onC (fun i => f (sK g k i)) i j → E i j
  ef : ∀ i, i < n → E i (f i)
  eg : ∀ i, i < n → i < k → i < g i → E i (g i)
  le : c + c0 ≤ 2 * e + qK g k
  ev : (c + c0 + qK g k) % 2 = 0
theorem rie_step (h : Ivl g n) (hf : Prm f n) {c0 k c e : Nat} {E : Nat → Nat → Prop} (hk : k < n) (R : Rie g f n c0 k c e E) : ∃ c' e' E', Rie g f n c0 (k + 1) c' e' E' := by
  have hP := sK_prm h hf k
  by_cases hlt : k < g k
  · have hgk := h.lt k hk
    have hpe : ∀ i, i < n → f (sK g k (swp k (g k) i)) = f (sK g (k + 1) i) := fun i hi => by rw [sK_swp h hk hi hlt]
    have hcg := onC_congr (swp_prm hP hk hgk) hpe
    have hPs := swp_prm hP hk hgk
    have hEn := mrg_eqv R.eq hk hgk
    have hq : qK g (k + 1) = qK g k + 1 := by show qK g k + (if k < g k then 1 else 0) = _; rw [if_pos hlt]
    have stepE : ∀ i, i < n → mrg E k (g k) i (f (sK g (k + 1) i)) := fun i hi => by
      rw [sK_swp h hk hi hlt]
      have s1 : ∀ x, x < n → E x (f (sK g k x)) := fun x hx => R.sub x _ hx (hf.lt _ (sK_lt h hx)) ⟨1, rfl⟩
      by_cases h1 : i = k
      · rw [h1, swp_a]; exact .inr (.inl ⟨R.eq.refl k hk, s1 _ hgk⟩)
      · by_cases h2 : i = g k
        · rw [h2, swp_b]; exact .inr (.inr ⟨R.eq.refl _ hgk, s1 _ hk⟩)
        · rw [swp_o h1 h2]; exact .inl (s1 i hi)
    have subE : ∀ i j, i < n → j < n → onC (fun i => f (sK g (k + 1) i)) i j → mrg E k (g k) i j := fun i j hi hj hh => by
      obtain ⟨m, rfl⟩ := hh
      clear hj
      induction m with
      | zero => exact hEn.refl i hi
      | succ m ih =>
        have hx := (sK_prm h hf (k + 1)).itr_lt hi m
        exact hEn.trans _ _ _ hi hx (hf.lt _ (sK_lt h hx)) ih (stepE _ hx)
    have gE : ∀ i, i < n → i < k + 1 → i < g i → mrg E k (g k) i (g i) := fun i hi hik hg => by
      rcases Nat.lt_or_ge i k with h5 | h5
      · exact .inl (R.eg i hi h5 hg)
      · rw [show i = k by omega]; exact .inr (.inl ⟨R.eq.refl k hk, R.eq.refl _ hgk⟩)
    by_cases hon : onC (fun i => f (sK g k i)) k (g k)
    · -- the cycle falls into two
      have hns := swp_split hP hk hgk (by omega) hon
      obtain ⟨c', hc'⟩ := cls_ex (onC_eqv hPs)
      have hback := swp_merge hPs hk hgk hns
      obtain ⟨m, hm, hcm⟩ := mrg_cls (onC_eqv hPs) hk hgk hns hc'
      have hcm2 : IsCls (onC fun i => f (sK g k i)) n m := hcm.congr fun i j hi hj => by
        rw [← hback i j hi hj]
        exact onC_congr (swp_prm hPs hk hgk) (fun x hx => by show f (sK g k (swp k (g k) (swp k (g k) x))) = _; rw [swp_swp]) i j hi hj
      have hmc := hcm2.uniq (onC_eqv hP) R.cc
      refine ⟨c', e, mrg E k (g k), hc'.congr hcg, R.ce.congr fun i j hi hj => (mrg_same R.eq hk hgk (R.sub _ _ hk hgk hon) i j hi hj).symm, hEn, subE, fun i hi => .inl (R.ef i hi), gE, ?_, ?_⟩
      · have := R.le; omega
      · have := R.ev; omega
    · obtain ⟨m, hm, hcm⟩ := mrg_cls (onC_eqv hP) hk hgk hon R.cc
      have hcm2 : IsCls (onC fun i => f (sK g (k + 1) i)) n m := hcm.congr fun i j hi hj => by
        rw [← swp_merge hP hk hgk hon i j hi hj]
        exact hcg i j hi hj
      by_cases hE : E k (g k)
      · refine ⟨m, e, mrg E k (g k), hcm2, R.ce.congr fun i j hi hj => (mrg_same R.eq hk hgk hE i j hi hj).symm, hEn, subE, fun i hi => .inl (R.ef i hi), gE, ?_, ?_⟩
        · have := R.le; omega
        · have := R.ev; omega
      · obtain ⟨e', he, hce⟩ := mrg_cls R.eq hk hgk hE R.ce
        refine ⟨m, e', mrg E k (g k), hcm2, hce, hEn, subE, fun i hi => .inl (R.ef i hi), gE, ?_, ?_⟩
        · have := R.le; omega
        · have := R.ev; omega
  · have hpe : ∀ i, i < n → f (sK g k i) = f (sK g (k + 1) i) := fun i hi => by rw [sK_same h hk hi hlt]
    have hcg := onC_congr hP hpe
    have hq : qK g (k + 1) = qK g k := by show qK g k + (if k < g k then 1 else 0) = _; rw [if_neg hlt]; rfl
    refine ⟨c, e, E, R.cc.congr hcg, R.ce, R.eq, fun i j hi hj hh => R.sub i j hi hj ((hcg i j hi hj).2 hh), R.ef, fun i hi hik hg => ?_, by rw [hq]; exact R.le, by rw [hq]; exact R.ev⟩
    rcases Nat.lt_or_ge i k with h5 | h5
    · exact R.eg i hi h5 hg
    · exact absurd (by rw [show i = k by omega] at hg; exact hg) hlt
theorem rie_all (h : Ivl g n) (hf : Prm f n) {c0 : Nat} (h0 : IsCls (onC f) n c0) : ∀ k, k ≤ n → ∃ c e E, Rie g f n c0 k c e E
  | 0, _ => by
    have hp0 : ∀ i, i < n → f i = f (sK g 0 i) := fun i _ => by rw [sK_zero]
    refine ⟨c0, c0, onC f, h0.congr (onC_congr hf hp0), h0, onC_eqv hf, fun i j hi hj hh => (onC_congr hf hp0 i j hi hj).2 hh, fun i _ => ⟨1, rfl⟩, fun i _ hik => by omega, ?_, ?_⟩
    · show c0 + c0 ≤ 2 * c0 + 0; omega
    · show (c0 + c0 + 0) % 2 = 0; omega
  | k + 1, hk => by
    obtain ⟨c, e, E, R⟩ := rie_all h hf h0 k (by omega)
    exact rie_step h hf (by omega) R
/-- Riemann and Hurwitz: an involution and a permutation that together reach every point. -/
theorem rie_end (h : Ivl g n) (hf : Prm f n) (hn : 0 < n) (ht : ∀ Q : Nat → Prop, Q 0 → (∀ x, x < n → Q x → Q (g x)) → (∀ x, x < n → Q x → Q (f x)) → ∀ x, x < n → Q x) {c0 c : Nat} (h0 : IsCls (onC f) n c0) (hc : IsCls (onC fun i => f (g i)) n c) : c + c0 ≤ 2 + qK g n ∧ (c + c0 + qK g n) % 2 = 0 := by
  obtain ⟨c', e, E, R⟩ := rie_all h hf h0 n (Nat.le_refl n)
  have hp : ∀ i, i < n → f (sK g n i) = f (g i) := fun i hi => by rw [sK_full h hi]
  have hcc : c' = c := (R.cc.congr (onC_congr (sK_prm h hf n) hp)).uniq (onC_eqv (prm_congr (sK_prm h hf n) hp)) hc
  have hg : ∀ i, i < n → E i (g i) := fun i hi => by
    rcases Nat.lt_trichotomy i (g i) with h1 | h1 | h1
    · exact R.eg i hi hi h1
    · rw [← h1]; exact R.eq.refl i hi
    · have := R.eg (g i) (h.lt i hi) (h.lt i hi) (by rw [h.inv i hi]; exact h1)
      rw [h.inv i hi] at this
      exact R.eq.symm _ _ (h.lt i hi) hi this
  have hall := ht (fun x => x < n ∧ E 0 x) ⟨hn, R.eq.refl 0 hn⟩ (fun x hx hq => ⟨h.lt x hx, R.eq.trans _ _ _ hn hx (h.lt x hx) hq.2 (hg x hx)⟩) (fun x hx hq => ⟨hf.lt x hx, R.eq.trans _ _ _ hn hx (hf.lt x hx) hq.2 (R.ef x hx)⟩)
  have h1 : IsCls E n 1 := ⟨[0], ⟨by simpa using hn, by simp, fun x hx y hy _ => by simp at hx hy; rw [hx, hy], fun i hi => ⟨0, by simp, (hall i hi).2⟩⟩, rfl⟩
  have he := R.ce.uniq R.eq h1
  have := R.le
  have := R.ev
  subst hcc he
  exact ⟨by omega, by omega⟩
/-- The cycles of an involution. -/
theorem ivl_cls (h : Ivl g n) : ∀ k, k ≤ n → IsCls (onC fun i => sK g k i) n (n - qK g k) ∧ qK g k ≤ k
  | 0, _ => by
    have hfix : ∀ k i, itr (fun i => sK g 0 i) k i = i := fun k i => by
      induction k with
      | zero => rfl
      | succ k ih => show sK g 0 (itr _ k i) = i; rw [ih, sK_zero]
    refine ⟨⟨List.range n, ⟨fun x hx => List.mem_range.1 hx, List.nodup_range, fun x _ y _ hh => ?_, fun i hi => ⟨i, List.mem_range.2 hi, 0, rfl⟩⟩, by simp [qK]⟩, Nat.le_refl 0⟩
    obtain ⟨k, hk⟩ := hh
    rw [hfix] at hk
    exact hk
  | k + 1, hk => by
    obtain ⟨ih, hle⟩ := ivl_cls h k (by omega)
    have hP : Prm (fun i => sK g k i) n := sK_prm (f := fun i => i) h ⟨fun i hi => hi, fun i j _ _ e => e⟩ k
    by_cases hlt : k < g k
    · have hgk := h.lt k (by omega)
      have hq : qK g (k + 1) = qK g k + 1 := by show qK g k + (if k < g k then 1 else 0) = _; rw [if_pos hlt]
      have hfix : ∀ m, itr (fun i => sK g k i) m k = k := fun m => by
        induction m with
        | zero => rfl
        | succ m ihm => show sK g k (itr _ m k) = k; rw [ihm]; exact if_neg (by omega)
      have hon : ¬ onC (fun i => sK g k i) k (g k) := fun ⟨m, hm⟩ => by rw [hfix] at hm; omega
      obtain ⟨m, hm, hcm⟩ := mrg_cls (onC_eqv hP) (by omega) hgk hon ih
      refine ⟨?_, by omega⟩
      rw [hq, show n - (qK g k + 1) = m by omega]
      exact hcm.congr fun i j hi hj => by
        rw [← swp_merge hP (by omega) hgk hon i j hi hj]
        exact onC_congr (swp_prm hP (by omega) hgk) (fun x hx => (sK_swp h (by omega) hx hlt).symm) i j hi hj
    · have hq : qK g (k + 1) = qK g k := by show qK g k + (if k < g k then 1 else 0) = _; rw [if_neg hlt]; rfl
      rw [hq]
      exact ⟨ih.congr (onC_congr hP fun x hx => (sK_same h (by omega) hx hlt).symm), by omega⟩
theorem ivl_prm (h : Ivl g n) : Prm g n := ⟨h.lt, fun i j hi hj e => by rw [← h.inv i hi, e, h.inv j hj]⟩
/-- The Euler characteristic of a transitive action: even, at most 2. -/
theorem euler_bound (h : Ivl g n) (hf : Prm f n) (hn : 0 < n) (ht : ∀ Q : Nat → Prop, Q 0 → (∀ x, x < n → Q x → Q (g x)) → (∀ x, x < n → Q x → Q (f x)) → ∀ x, x < n → Q x) {s c0 c : Nat} (hs : IsCls (onC g) n s) (h0 : IsCls (onC f) n c0) (hc : IsCls (onC fun i => f (g i)) n c) : s + c + c0 ≤ n + 2 ∧ (s + c + c0 + n) % 2 = 0 := by
  obtain ⟨h1, h2⟩ := rie_end h hf hn ht h0 hc
  obtain ⟨h3, h4⟩ := ivl_cls h n (Nat.le_refl n)
  have := (h3.congr (onC_congr (sK_prm (f := fun i => i) h ⟨fun i hi => hi, fun i j _ _ e => e⟩ n) fun i hi => sK_full h hi)).uniq (onC_eqv (ivl_prm h)) hs
  omega
end
end Go.Proofs.Ytmikhkolbkdnpaa
