/- Plain mathematics: classes of an equivalence counted, cycles under a transposition, and the Euler characteristic of a transitive action (Riemann and Hurwitz): even, at most 2. Plain mathematics: the projective action as a quotient, its cycles counted, the Euler characteristic of an action and of the renumbered one. Plain mathematics: the action based at another point is an action, with the same Euler characteristic. -/
import Derived.Test.YtmikhkolbkdnpaaClsM
import Derived.Test.YtmikhkolbkdnpaaCycL
import Derived.Test.YtmikhkolbkdnpaaRPr
import Derived.Test.YtmikhkolbkdnpaaChkL
namespace Go.Proofs.Ytmikhkolbkdnpaa
set_option linter.unusedVariables false

/-- R is an equivalence on the points below n. -/
structure Eqv (R : Nat → Nat → Prop) (n : Nat) : Prop where
  refl : ∀ i, i < n → R i i
  symm : ∀ i j, i < n → j < n → R i j → R j i
  trans : ∀ i j k, i < n → j < n → k < n → R i j → R j k → R i k
/-- m is the number of classes: L has one point of each. -/
structure Reps (R : Nat → Nat → Prop) (n : Nat) (L : List Nat) : Prop where
  lt : ∀ x ∈ L, x < n
  nd : L.Nodup
  one : ∀ x ∈ L, ∀ y ∈ L, R x y → x = y
  all : ∀ i, i < n → ∃ x ∈ L, R x i
def IsCls (R : Nat → Nat → Prop) (n m : Nat) : Prop := ∃ L, Reps R n L ∧ L.length = m
theorem nodup_map_on {g : Nat → Nat} : ∀ {L : List Nat}, L.Nodup → (∀ x ∈ L, ∀ y ∈ L, g x = g y → x = y) → (L.map g).Nodup
  | [], _, _ => by simp
  | a :: L, hd, h => by
    rw [List.nodup_cons] at hd
    rw [List.map_cons, List.nodup_cons]
    refine ⟨fun hm => ?_, nodup_map_on hd.2 fun x hx y hy => h x (by simp [hx]) y (by simp [hy])⟩
    obtain ⟨b, hb, e⟩ := List.mem_map.1 hm
    have := h b (by simp [hb]) a (by simp) e
    subst this
    exact hd.1 hb
/-- Points of different classes of R, carried to points of different classes of Q, are no more than Q has classes. -/
theorem reps_le {R Q : Nat → Nat → Prop} {n m : Nat} {L M : List Nat} (hQ : Eqv Q m) (hL : Reps R n L) (hM : Reps Q m M) (φ : Nat → Nat) (hφ : ∀ i, i < n → φ i < m) (h : ∀ i j, i < n → j < n → Q (φ i) (φ j) → R i j) : L.length ≤ M.length := by
  have key : ∀ x, ∃ y, x ∈ L → y ∈ M ∧ Q y (φ x) := fun x => by
    by_cases hx : x ∈ L
    · obtain ⟨y, hy, hq⟩ := hM.all (φ x) (hφ x (hL.lt x hx))
      exact ⟨y, fun _ => ⟨hy, hq⟩⟩
    · exact ⟨0, fun h => absurd h hx⟩
  have hg := fun x => Classical.choose_spec (key x)
  generalize hgd : (fun x => Classical.choose (key x)) = g
  have hg : ∀ x, x ∈ L → g x ∈ M ∧ Q (g x) (φ x) := fun x => by rw [← hgd]; exact hg x
  have hd : (L.map g).Nodup := nodup_map_on hL.nd fun x hx y hy e => by
    have h1 := hg x hx
    have h2 := hg y hy
    rw [← e] at h2
    have l1 := hφ x (hL.lt x hx)
    have l2 := hφ y (hL.lt y hy)
    have l3 := hM.lt _ h1.1
    exact hL.one x hx y hy (h x y (hL.lt x hx) (hL.lt y hy) (hQ.trans _ _ _ l1 l3 l2 (hQ.symm _ _ l3 l1 h1.2) h2.2))
  have := List.Nodup.length_le_of_subset (l₂ := M) hd fun y hy => by
    obtain ⟨x, hx, rfl⟩ := List.mem_map.1 hy
    exact (hg x hx).1
  simpa using this
theorem IsCls.uniq {R : Nat → Nat → Prop} {n a b : Nat} (hR : Eqv R n) (h : IsCls R n a) (h' : IsCls R n b) : a = b := by
  obtain ⟨L, hL, rfl⟩ := h
  obtain ⟨M, hM, rfl⟩ := h'
  exact Nat.le_antisymm (reps_le hR hL hM id (fun i h => h) fun i j _ _ h => h) (reps_le hR hM hL id (fun i h => h) fun i j _ _ h => h)
/-- A map onto, under which both relations are the same: as many classes. -/
theorem IsCls.map {R Q : Nat → Nat → Prop} {n m a b : Nat} (hR : Eqv R n) (hQ : Eqv Q m) (h : IsCls R n a) (h' : IsCls Q m b) (φ : Nat → Nat) (hφ : ∀ i, i < n → φ i < m) (hon : ∀ j, j < m → ∃ i, i < n ∧ φ i = j) (hiff : ∀ i j, i < n → j < n → (R i j ↔ Q (φ i) (φ j))) : a = b := by
  obtain ⟨L, hL, rfl⟩ := h
  obtain ⟨M, hM, rfl⟩ := h'
  refine Nat.le_antisymm (reps_le hQ hL hM φ hφ fun i j hi hj h => (hiff i j hi hj).2 h) ?_
  have key : ∀ j, ∃ i, j < m → i < n ∧ φ i = j := fun j => by
    by_cases hj : j < m
    · obtain ⟨i, h⟩ := hon j hj
      exact ⟨i, fun _ => h⟩
    · exact ⟨0, fun h => absurd h hj⟩
  have hg := fun x => Classical.choose_spec (key x)
  generalize hgd : (fun x => Classical.choose (key x)) = ψ
  have hg : ∀ j, j < m → ψ j < n ∧ φ (ψ j) = j := fun x => by rw [← hgd]; exact hg x
  refine reps_le hR hM hL ψ (fun j hj => (hg j hj).1) fun i j hi hj h => ?_
  have := (hiff _ _ (hg i hi).1 (hg j hj).1).1 h
  rwa [(hg i hi).2, (hg j hj).2] at this
theorem IsCls.congr {R Q : Nat → Nat → Prop} {n a : Nat} (h : IsCls R n a) (e : ∀ i j, i < n → j < n → (R i j ↔ Q i j)) : IsCls Q n a := by
  obtain ⟨L, hL, rfl⟩ := h
  refine ⟨L, ⟨hL.lt, hL.nd, fun x hx y hy h => hL.one x hx y hy ((e x y (hL.lt x hx) (hL.lt y hy)).2 h), fun i hi => ?_⟩, rfl⟩
  obtain ⟨x, hx, h⟩ := hL.all i hi
  exact ⟨x, hx, (e x i (hL.lt x hx) hi).1 h⟩
theorem reps_upto {R : Nat → Nat → Prop} {n : Nat} (hR : Eqv R n) : ∀ k, k ≤ n → ∃ L : List Nat, (∀ x ∈ L, x < n) ∧ L.Nodup ∧ (∀ x ∈ L, ∀ y ∈ L, R x y → x = y) ∧ ∀ i, i < k → ∃ x ∈ L, R x i
  | 0, _ => ⟨[], by simp, by simp, by simp, fun i h => by omega⟩
  | k + 1, hk => by
    obtain ⟨L, h1, h2, h3, h4⟩ := reps_upto hR k (by omega)
    by_cases h : ∃ x ∈ L, R x k
    · refine ⟨L, h1, h2, h3, fun i hi => ?_⟩
      rcases Nat.lt_or_ge i k with h5 | h5
      · exact h4 i h5
      · rw [show i = k by omega]; exact h
    · refine ⟨k :: L, ?_, ?_, ?_, fun i hi => ?_⟩
      · intro x hx
        rcases List.mem_cons.1 hx with rfl | hx
        · omega
        · exact h1 x hx
      · rw [List.nodup_cons]
        exact ⟨fun hm => h ⟨k, hm, hR.refl k (by omega)⟩, h2⟩
      · intro x hx y hy hr
        rcases List.mem_cons.1 hx with ex | hx1 <;> rcases List.mem_cons.1 hy with ey | hy1
        · rw [ex, ey]
        · exact absurd ⟨y, hy1, hR.symm _ _ (by omega) (h1 y hy1) (ex ▸ hr)⟩ h
        · exact absurd ⟨x, hx1, ey ▸ hr⟩ h
        · exact h3 x hx1 y hy1 hr
      · rcases Nat.lt_or_ge i k with h5 | h5
        · obtain ⟨x, hx, hr⟩ := h4 i h5
          exact ⟨x, by simp [hx], hr⟩
        · exact ⟨k, by simp, by rw [show i = k by omega]; exact hR.refl k (by omega)⟩
theorem cls_ex {R : Nat → Nat → Prop} {n : Nat} (hR : Eqv R n) : ∃ m, IsCls R n m := by
  obtain ⟨L, h1, h2, h3, h4⟩ := reps_upto hR n (Nat.le_refl n)
  exact ⟨_, L, ⟨h1, h2, h3, h4⟩, rfl⟩
/-- The classes of a and of b as one. -/
def mrg (R : Nat → Nat → Prop) (a b i j : Nat) : Prop := R i j ∨ (R i a ∧ R b j) ∨ (R i b ∧ R a j)
theorem mrg_eqv {R : Nat → Nat → Prop} {n a b : Nat} (hR : Eqv R n) (ha : a < n) (hb : b < n) : Eqv (mrg R a b) n where
  refl i hi := .inl (hR.refl i hi)
  symm i j hi hj h := by
    rcases h with h | ⟨h, h'⟩ | ⟨h, h'⟩
    · exact .inl (hR.symm i j hi hj h)
    · exact .inr (.inr ⟨hR.symm _ _ hb hj h', hR.symm _ _ hi ha h⟩)
    · exact .inr (.inl ⟨hR.symm _ _ ha hj h', hR.symm _ _ hi hb h⟩)
  trans i j k hi hj hk h h' := by
    have t := fun {x y z : Nat} (hx : x < n) (hy : y < n) (hz : z < n) => hR.trans x y z hx hy hz
    have s := fun {x y : Nat} (hx : x < n) (hy : y < n) => hR.symm x y hx hy
    rcases h with h | ⟨h, h1⟩ | ⟨h, h1⟩ <;> rcases h' with h' | ⟨h', h2⟩ | ⟨h', h2⟩
    · exact .inl (t hi hj hk h h')
    · exact .inr (.inl ⟨t hi hj ha h h', h2⟩)
    · exact .inr (.inr ⟨t hi hj hb h h', h2⟩)
    · exact .inr (.inl ⟨h, t hb hj hk h1 h'⟩)
    · exact .inr (.inl ⟨h, h2⟩)
    · exact .inl (t hi ha hk h h2)
    · exact .inr (.inr ⟨h, t ha hj hk h1 h'⟩)
    · exact .inl (t hi hb hk h h2)
    · exact .inr (.inr ⟨h, h2⟩)
theorem mrg_same {R : Nat → Nat → Prop} {n a b : Nat} (hR : Eqv R n) (ha : a < n) (hb : b < n) (hab : R a b) (i j : Nat) (hi : i < n) (hj : j < n) : mrg R a b i j ↔ R i j := by
  refine ⟨fun h => ?_, .inl⟩
  rcases h with h | ⟨h, h'⟩ | ⟨h, h'⟩
  · exact h
  · exact hR.trans _ _ _ hi ha hj h (hR.trans _ _ _ ha hb hj hab h')
  · exact hR.trans _ _ _ hi hb hj h (hR.trans _ _ _ hb ha hj (hR.symm _ _ ha hb hab) h')
/-- Two classes made one: one class less. -/
theorem mrg_cls {R : Nat → Nat → Prop} {n a b m : Nat} (hR : Eqv R n) (ha : a < n) (hb : b < n) (hab : ¬ R a b) (h : IsCls R n m) : ∃ k, m = k + 1 ∧ IsCls (mrg R a b) n k := by
  obtain ⟨L, hL, rfl⟩ := h
  obtain ⟨y, hy, hyb⟩ := hL.all b hb
  have hyn := hL.lt y hy
  have hp : 0 < L.length := List.length_pos_of_mem hy
  refine ⟨L.length - 1, by omega, L.erase y, ⟨fun x hx => hL.lt x (List.mem_of_mem_erase hx), hL.nd.erase y, fun x hx z hz hr => ?_, fun i hi => ?_⟩, List.length_erase_of_mem hy⟩
  · rw [hL.nd.mem_erase_iff] at hx hz
    have xn := hL.lt x hx.2
    have zn := hL.lt z hz.2
    rcases hr with h | ⟨_, h⟩ | ⟨h, _⟩
    · exact hL.one x hx.2 z hz.2 h
    · exact absurd (hL.one z hz.2 y hy (hR.trans _ _ _ zn hb hyn (hR.symm _ _ hb zn h) (hR.symm _ _ hyn hb hyb))) hz.1
    · exact absurd (hL.one x hx.2 y hy (hR.trans _ _ _ xn hb hyn h (hR.symm _ _ hyn hb hyb))) hx.1
  · obtain ⟨x, hx, hr⟩ := hL.all i hi
    by_cases e : x = y
    · subst e
      obtain ⟨z, hz, hza⟩ := hL.all a ha
      refine ⟨z, hL.nd.mem_erase_iff.2 ⟨?_, hz⟩, .inr (.inl ⟨hza, hR.trans _ _ _ hb hyn hi (hR.symm _ _ hyn hb hyb) hr⟩)⟩
      rintro rfl
      exact hab (hR.trans _ _ _ ha hyn hb (hR.symm _ _ hyn ha hza) hyb)
    · exact ⟨x, hL.nd.mem_erase_iff.2 ⟨e, hx⟩, .inl hr⟩
theorem onC_eqv {f : Nat → Nat} {n : Nat} (hp : Prm f n) : Eqv (onC f) n := ⟨fun i _ => onC_refl f i, fun i j hi _ h => onC_symm hp hi h, fun i j k _ _ _ h h' => onC_trans h h'⟩
/-- a and b changed for each other. -/
def swp (a b i : Nat) : Nat := if i = a then b else if i = b then a else i
theorem swp_a (a b : Nat) : swp a b a = b := if_pos rfl
theorem swp_b (a b : Nat) : swp a b b = a := by unfold swp; split; (rename_i h; exact h); rw [if_pos rfl]
theorem swp_o {a b i : Nat} (h : i ≠ a) (h' : i ≠ b) : swp a b i = i := by unfold swp; rw [if_neg h, if_neg h']
theorem swp_swp (a b i : Nat) : swp a b (swp a b i) = i := by
  by_cases h : i = a
  · subst h; rw [swp_a, swp_b]
  · by_cases h' : i = b
    · subst h'; rw [swp_b, swp_a]
    · rw [swp_o h h', swp_o h h']
theorem swp_prm {f : Nat → Nat} {n a b : Nat} (hp : Prm f n) (ha : a < n) (hb : b < n) : Prm (fun i => f (swp a b i)) n := by
  have hl : ∀ i, i < n → swp a b i < n := fun i hi => by unfold swp; split; (exact hb); split; (exact ha); exact hi
  refine ⟨fun i hi => hp.lt _ (hl i hi), fun i j hi hj e => ?_⟩
  have := hp.inj _ _ (hl i hi) (hl j hj) e
  rw [← swp_swp a b i, this, swp_swp]
/-- From a the changed map runs along the cycle of b up to b. -/
theorem run_b {f : Nat → Nat} {a b c : Nat} (hc : IsPer f b c) (hab : ¬ onC f b a) : ∀ k, 1 ≤ k → k ≤ c → itr (fun i => f (swp a b i)) k a = itr f k b
  | 0, h, _ => by omega
  | 1, _, _ => by show f (swp a b a) = f b; rw [swp_a]
  | k + 2, _, hk => by
    show f (swp a b (itr (fun i => f (swp a b i)) (k + 1) a)) = f (itr f (k + 1) b)
    rw [run_b hc hab (k + 1) (by omega) (by omega), swp_o (fun e => hab ⟨k + 1, e⟩) (hc.least (k + 1) (by omega) (by omega))]
theorem run_on {f : Nat → Nat} {n a b j : Nat} (hp : Prm f n) (hb : b < n) (hab : ¬ onC f b a) (h : onC f b j) : onC (fun i => f (swp a b i)) a j := by
  obtain ⟨c, _, hc⟩ := per_ex hp hb
  obtain ⟨k, hk⟩ := h
  rw [hc.mod] at hk
  have hm := Nat.mod_lt k hc.pos
  rcases Nat.eq_zero_or_pos (k % c) with h0 | h0
  · rw [h0] at hk
    refine ⟨c, ?_⟩
    rw [run_b hc hab c hc.pos (Nat.le_refl c), hc.back]
    exact hk
  · exact ⟨k % c, by rw [run_b hc hab _ h0 (by omega)]; exact hk⟩
theorem swp_comm (a b i : Nat) : swp a b i = swp b a i := by
  by_cases h : i = a
  · subst h; rw [swp_a, swp_b]
  · by_cases h' : i = b
    · subst h'; rw [swp_a, swp_b]
    · rw [swp_o h h', swp_o h' h]
/-- Different cycles are made one. -/
theorem swp_merge {f : Nat → Nat} {n a b : Nat} (hp : Prm f n) (ha : a < n) (hb : b < n) (hab : ¬ onC f a b) (i j : Nat) (hi : i < n) (hj : j < n) : onC (fun i => f (swp a b i)) i j ↔ mrg (onC f) a b i j := by
  have hR := onC_eqv hp
  have hM := mrg_eqv hR ha hb
  have hq := swp_prm hp ha hb
  have hQ := onC_eqv hq
  have hba : ¬ onC f b a := fun h => hab (onC_symm hp hb h)
  have toA : ∀ x, x < n → onC f b x → onC (fun i => f (swp a b i)) a x := fun x _ h => run_on hp hb hba h
  have toB : ∀ x, x < n → onC f a x → onC (fun i => f (swp a b i)) b x := fun x _ h => by
    have := run_on hp ha hab h
    rwa [show (fun i => f (swp b a i)) = fun i => f (swp a b i) from funext fun i => by rw [swp_comm]] at this
  have ab : onC (fun i => f (swp a b i)) a b := toA b hb (onC_refl f b)
  constructor
  · rintro ⟨k, hk⟩
    induction k generalizing j with
    | zero => exact .inl ⟨0, hk⟩
    | succ k ih =>
      have hx := hq.itr_lt hi k
      refine hM.trans _ _ _ hi hx hj (ih _ hx rfl) ?_
      have hk' : f (swp a b (itr (fun i => f (swp a b i)) k i)) = j := hk
      generalize itr (fun i => f (swp a b i)) k i = x at *
      by_cases h1 : x = a
      · subst h1; rw [swp_a] at hk'; exact .inr (.inl ⟨onC_refl f _, ⟨1, hk'⟩⟩)
      · by_cases h2 : x = b
        · subst h2; rw [swp_b] at hk'; exact .inr (.inr ⟨onC_refl f _, ⟨1, hk'⟩⟩)
        · rw [swp_o h1 h2] at hk'; exact .inl ⟨1, hk'⟩
  · have base : ∀ x y, x < n → y < n → onC f x y → onC (fun i => f (swp a b i)) x y := fun x y hx hy h => by
      by_cases h1 : onC f a x
      · exact hQ.trans _ _ _ hx hb hy (hQ.symm _ _ hb hx (toB x hx h1)) (toB y hy (onC_trans h1 h))
      · by_cases h2 : onC f b x
        · exact hQ.trans _ _ _ hx ha hy (hQ.symm _ _ ha hx (toA x hx h2)) (toA y hy (onC_trans h2 h))
        · obtain ⟨k, rfl⟩ := h
          have : ∀ k, itr (fun i => f (swp a b i)) k x = itr f k x := fun k => by
            induction k with
            | zero => rfl
            | succ k ih =>
              show f (swp a b (itr (fun i => f (swp a b i)) k x)) = f (itr f k x)
              rw [ih, swp_o (fun e => h1 (onC_symm hp hx ⟨k, e⟩)) (fun e => h2 (onC_symm hp hx ⟨k, e⟩))]
          exact ⟨k, this k⟩
    rintro (h | ⟨h, h'⟩ | ⟨h, h'⟩)
    · exact base _ _ hi hj h
    · exact hQ.trans _ _ _ hi ha hj (base _ _ hi ha h) (toA j hj h')
    · exact hQ.trans _ _ _ hi hb hj (base _ _ hi hb h) (toB j hj h')
/-- One cycle falls into two. -/
theorem swp_split {f : Nat → Nat} {n a b : Nat} (hp : Prm f n) (ha : a < n) (hb : b < n) (hne : a ≠ b) (hab : onC f a b) : ¬ onC (fun i => f (swp a b i)) a b := by
  obtain ⟨c, _, hc⟩ := per_ex hp ha
  obtain ⟨k, hk⟩ := hab
  rw [hc.mod] at hk
  have hm := Nat.mod_lt k hc.pos
  generalize k % c = k at *
  have hk0 : k ≠ 0 := fun e => by subst e; exact hne hk
  have run : ∀ j, 1 ≤ j → j ≤ c - k → itr (fun i => f (swp a b i)) j a = itr f (k + j) a := fun j => by
    induction j with
    | zero => intro h; omega
    | succ j ih =>
      intro _ hj
      show f (swp a b (itr (fun i => f (swp a b i)) j a)) = f (itr f (k + j) a)
      rcases Nat.eq_zero_or_pos j with h0 | h0
      · subst h0
        show f (swp a b a) = f (itr f (k + 0) a)
        rw [swp_a, Nat.add_zero, hk]
      · rw [ih h0 (by omega), swp_o (hc.least _ (by omega) (by omega)) (fun e => ?_)]
        have h2 : itr f (k + j + (c - k)) a = a := by rw [itr_add, e, ← hk, ← itr_add, show k + (c - k) = c by omega, hc.back]
        rw [show k + j + (c - k) = c + j by omega, itr_add, hc.back] at h2
        exact hc.least j h0 (by omega) h2
  have hback : itr (fun i => f (swp a b i)) (c - k) a = a := by rw [run _ (by omega) (Nat.le_refl _), show k + (c - k) = c by omega, hc.back]
  rintro ⟨m, hmm⟩
  have hmul : ∀ q, itr (fun i => f (swp a b i)) ((c - k) * q) a = a := fun q => by
    induction q with
    | zero => rfl
    | succ q ih => rw [Nat.mul_succ, itr_add, ih, hback]
  have h3 := itr_add (fun i => f (swp a b i)) a ((c - k) * (m / (c - k))) (m % (c - k))
  rw [Nat.div_add_mod, hmul, hmm] at h3
  have hml : m % (c - k) < c - k := Nat.mod_lt _ (by omega)
  generalize m % (c - k) = r at *
  rcases Nat.eq_zero_or_pos r with h0 | h0
  · subst h0; exact hne h3.symm
  · rw [run r h0 (by omega)] at h3
    have h2 : itr f (k + r + (c - k)) a = a := by rw [itr_add, ← h3, ← hk, ← itr_add, show k + (c - k) = c by omega, hc.back]
    rw [show k + r + (c - k) = c + r by omega, itr_add, hc.back] at h2
    exact hc.least r h0 (by omega) h2
/-- The involution g on the pairs whose lesser point is below k. -/
def sK (g : Nat → Nat) (k i : Nat) : Nat := if min i (g i) < k then g i else i
def qK (g : Nat → Nat) : Nat → Nat
  | 0 => 0
  | k + 1 => qK g k + (if k < g k then 1 else 0)
structure Ivl (g : Nat → Nat) (n : Nat) : Prop where
  lt : ∀ i, i < n → g i < n
  inv : ∀ i, i < n → g (g i) = i
section
variable {g f : Nat → Nat} {n : Nat}
theorem sK_zero (g : Nat → Nat) (i : Nat) : sK g 0 i = i := if_neg (by omega)
theorem sK_full (h : Ivl g n) {i : Nat} (hi : i < n) : sK g n i = g i := if_pos (by omega)
theorem sK_lt (h : Ivl g n) {k i : Nat} (hi : i < n) : sK g k i < n := by
  unfold sK; split
  · exact h.lt i hi
  · exact hi
theorem sK_inv (h : Ivl g n) {k i : Nat} (hi : i < n) : sK g k (sK g k i) = i := by
  unfold sK
  by_cases e : min i (g i) < k
  · rw [if_pos e, h.inv i hi, if_pos (by omega)]
  · rw [if_neg e, if_neg e]
theorem sK_swp (h : Ivl g n) {k i : Nat} (hk : k < n) (hi : i < n) (hlt : k < g k) : sK g (k + 1) i = sK g k (swp k (g k) i) := by
  by_cases h1 : i = k
  · subst h1
    rw [swp_a]
    unfold sK
    rw [if_pos (by omega), h.inv i hi, if_neg (by omega)]
  · by_cases h2 : i = g k
    · subst h2
      rw [swp_b]
      unfold sK
      rw [h.inv k hk, if_pos (by omega), if_neg (by omega)]
    · rw [swp_o h1 h2]
      unfold sK
      have h3 : g i ≠ k := fun e => h2 (by rw [← e, h.inv i hi])
      by_cases e : min i (g i) < k
      · rw [if_pos e, if_pos (by omega)]
      · rw [if_neg e, if_neg (by omega)]
theorem sK_same (h : Ivl g n) {k i : Nat} (hk : k < n) (hi : i < n) (hlt : ¬ k < g k) : sK g (k + 1) i = sK g k i := by
  unfold sK
  by_cases e : min i (g i) < k
  · rw [if_pos e, if_pos (by omega)]
  · rw [if_neg e]
    by_cases e2 : min i (g i) < k + 1
    · rw [if_pos e2]
      by_cases h1 : i = k
      · subst h1; omega
      · have h3 : g i = k := by omega
        have : g k = i := by rw [← h3, h.inv i hi]
        omega
    · rw [if_neg e2]
theorem prm_congr {f f' : Nat → Nat} (hp : Prm f n) (e : ∀ i, i < n → f i = f' i) : Prm f' n :=
  ⟨fun i hi => by rw [← e i hi]; exact hp.lt i hi, fun i j hi hj h => hp.inj i j hi hj (by rw [e i hi, e j hj]; exact h)⟩
theorem itr_congr {f f' : Nat → Nat} (hp : Prm f n) (e : ∀ i, i < n → f i = f' i) {i : Nat} (hi : i < n) : ∀ k, itr f k i = itr f' k i
  | 0 => rfl
  | k + 1 => by
    show f (itr f k i) = f' (itr f' k i)
    rw [← itr_congr hp e hi k, e _ (hp.itr_lt hi k)]
theorem onC_congr {f f' : Nat → Nat} (hp : Prm f n) (e : ∀ i, i < n → f i = f' i) (i j : Nat) (hi : i < n) (_ : j < n) : onC f i j ↔ onC f' i j :=
  ⟨fun ⟨k, h⟩ => ⟨k, by rw [← itr_congr hp e hi]; exact h⟩, fun ⟨k, h⟩ => ⟨k, by rw [itr_congr hp e hi]; exact h⟩⟩
theorem sK_prm (h : Ivl g n) (hf : Prm f n) (k : Nat) : Prm (fun i => f (sK g k i)) n := by
  refine ⟨fun i hi => hf.lt _ (sK_lt h hi), fun i j hi hj e => ?_⟩
  have := hf.inj _ _ (sK_lt h hi) (sK_lt h hj) e
  rw [← sK_inv h (k := k) hi, this, sK_inv h hj]
/-- What the pairs put together so far: E says which points they and f connect. -/
structure Rie (g f : Nat → Nat) (n c0 k c e : Nat) (E : Nat → Nat → Prop) : Prop where
  cc : IsCls (onC fun i => f (sK g k i)) n c
  ce : IsCls E n e
  eq : Eqv E n
  sub : ∀ i j, i < n → j < n → onC (fun i => f (sK g k i)) i j → E i j
  ef : ∀ i, i < n → E i (f i)
  eg : ∀ i, i < n → i < k → i < g i → E i (g i)
  le : c + c0 ≤ 2 * e + qK g k
  ev : (c + c0 + qK g k) % 2 = 0
theorem rie_step (h : Ivl g n) (hf : Prm f n) {c0 k c e : Nat} {E : Nat → Nat → Prop} (hk : k < n) (R : Rie g f n c0 k c e E) : ∃ c' e' E', Rie g f n c0 (k + 1) c' e' E' := by
  have hP := sK_prm h hf k
  by_cases hlt : k < g k
  · have hgk := h.lt k hk
    have hpe : ∀ i, i < n → f (sK g k (swp k (g k) i)) = f (sK g (k + 1) i) := fun i hi => by rw [sK_swp h hk hi hlt]
    have hcg := onC_congr (swp_prm hP hk hgk) hpe
    have hPs := swp_prm hP hk hgk
    have hEn := mrg_eqv R.eq hk hgk
    have hq : qK g (k + 1) = qK g k + 1 := by show qK g k + (if k < g k then 1 else 0) = _; rw [if_pos hlt]
    have stepE : ∀ i, i < n → mrg E k (g k) i (f (sK g (k + 1) i)) := fun i hi => by
      rw [sK_swp h hk hi hlt]
      have s1 : ∀ x, x < n → E x (f (sK g k x)) := fun x hx => R.sub x _ hx (hf.lt _ (sK_lt h hx)) ⟨1, rfl⟩
      by_cases h1 : i = k
      · rw [h1, swp_a]; exact .inr (.inl ⟨R.eq.refl k hk, s1 _ hgk⟩)
      · by_cases h2 : i = g k
        · rw [h2, swp_b]; exact .inr (.inr ⟨R.eq.refl _ hgk, s1 _ hk⟩)
        · rw [swp_o h1 h2]; exact .inl (s1 i hi)
    have subE : ∀ i j, i < n → j < n → onC (fun i => f (sK g (k + 1) i)) i j → mrg E k (g k) i j := fun i j hi hj hh => by
      obtain ⟨m, rfl⟩ := hh
      clear hj
      induction m with
      | zero => exact hEn.refl i hi
      | succ m ih =>
        have hx := (sK_prm h hf (k + 1)).itr_lt hi m
        exact hEn.trans _ _ _ hi hx (hf.lt _ (sK_lt h hx)) ih (stepE _ hx)
    have gE : ∀ i, i < n → i < k + 1 → i < g i → mrg E k (g k) i (g i) := fun i hi hik hg => by
      rcases Nat.lt_or_ge i k with h5 | h5
      · exact .inl (R.eg i hi h5 hg)
      · rw [show i = k by omega]; exact .inr (.inl ⟨R.eq.refl k hk, R.eq.refl _ hgk⟩)
    by_cases hon : onC (fun i => f (sK g k i)) k (g k)
    · -- the cycle falls into two
      have hns := swp_split hP hk hgk (by omega) hon
      obtain ⟨c', hc'⟩ := cls_ex (onC_eqv hPs)
      have hback := swp_merge hPs hk hgk hns
      obtain ⟨m, hm, hcm⟩ := mrg_cls (onC_eqv hPs) hk hgk hns hc'
      have hcm2 : IsCls (onC fun i => f (sK g k i)) n m := hcm.congr fun i j hi hj => by
        rw [← hback i j hi hj]
        exact onC_congr (swp_prm hPs hk hgk) (fun x hx => by show f (sK g k (swp k (g k) (swp k (g k) x))) = _; rw [swp_swp]) i j hi hj
      have hmc := hcm2.uniq (onC_eqv hP) R.cc
      refine ⟨c', e, mrg E k (g k), hc'.congr hcg, R.ce.congr fun i j hi hj => (mrg_same R.eq hk hgk (R.sub _ _ hk hgk hon) i j hi hj).symm, hEn, subE, fun i hi => .inl (R.ef i hi), gE, ?_, ?_⟩
      · have := R.le; omega
      · have := R.ev; omega
    · obtain ⟨m, hm, hcm⟩ := mrg_cls (onC_eqv hP) hk hgk hon R.cc
      have hcm2 : IsCls (onC fun i => f (sK g (k + 1) i)) n m := hcm.congr fun i j hi hj => by
        rw [← swp_merge hP hk hgk hon i j hi hj]
        exact hcg i j hi hj
      by_cases hE : E k (g k)
      · refine ⟨m, e, mrg E k (g k), hcm2, R.ce.congr fun i j hi hj => (mrg_same R.eq hk hgk hE i j hi hj).symm, hEn, subE, fun i hi => .inl (R.ef i hi), gE, ?_, ?_⟩
        · have := R.le; omega
        · have := R.ev; omega
      · obtain ⟨e', he, hce⟩ := mrg_cls R.eq hk hgk hE R.ce
        refine ⟨m, e', mrg E k (g k), hcm2, hce, hEn, subE, fun i hi => .inl (R.ef i hi), gE, ?_, ?_⟩
        · have := R.le; omega
        · have := R.ev; omega
  · have hpe : ∀ i, i < n → f (sK g k i) = f (sK g (k + 1) i) := fun i hi => by rw [sK_same h hk hi hlt]
    have hcg := onC_congr hP hpe
    have hq : qK g (k + 1) = qK g k := by show qK g k + (if k < g k then 1 else 0) = _; rw [if_neg hlt]; rfl
    refine ⟨c, e, E, R.cc.congr hcg, R.ce, R.eq, fun i j hi hj hh => R.sub i j hi hj ((hcg i j hi hj).2 hh), R.ef, fun i hi hik hg => ?_, by rw [hq]; exact R.le, by rw [hq]; exact R.ev⟩
    rcases Nat.lt_or_ge i k with h5 | h5
    · exact R.eg i hi h5 hg
    · exact absurd (by rw [show i = k by omega] at hg; exact hg) hlt
theorem rie_all (h : Ivl g n) (hf : Prm f n) {c0 : Nat} (h0 : IsCls (onC f) n c0) : ∀ k, k ≤ n → ∃ c e E, Rie g f n c0 k c e E
  | 0, _ => by
    have hp0 : ∀ i, i < n → f i = f (sK g 0 i) := fun i _ => by rw [sK_zero]
    refine ⟨c0, c0, onC f, h0.congr (onC_congr hf hp0), h0, onC_eqv hf, fun i j hi hj hh => (onC_congr hf hp0 i j hi hj).2 hh, fun i _ => ⟨1, rfl⟩, fun i _ hik => by omega, ?_, ?_⟩
    · show c0 + c0 ≤ 2 * c0 + 0; omega
    · show (c0 + c0 + 0) % 2 = 0; omega
  | k + 1, hk => by
    obtain ⟨c, e, E, R⟩ := rie_all h hf h0 k (by omega)
    exact rie_step h hf (by omega) R
/-- Riemann and Hurwitz: an involution and a permutation that together reach every point. -/
theorem rie_end (h : Ivl g n) (hf : Prm f n) (hn : 0 < n) (ht : ∀ Q : Nat → Prop, Q 0 → (∀ x, x < n → Q x → Q (g x)) → (∀ x, x < n → Q x → Q (f x)) → ∀ x, x < n → Q x) {c0 c : Nat} (h0 : IsCls (onC f) n c0) (hc : IsCls (onC fun i => f (g i)) n c) : c + c0 ≤ 2 + qK g n ∧ (c + c0 + qK g n) % 2 = 0 := by
  obtain ⟨c', e, E, R⟩ := rie_all h hf h0 n (Nat.le_refl n)
  have hp : ∀ i, i < n → f (sK g n i) = f (g i) := fun i hi => by rw [sK_full h hi]
  have hcc : c' = c := (R.cc.congr (onC_congr (sK_prm h hf n) hp)).uniq (onC_eqv (prm_congr (sK_prm h hf n) hp)) hc
  have hg : ∀ i, i < n → E i (g i) := fun i hi => by
    rcases Nat.lt_trichotomy i (g i) with h1 | h1 | h1
    · exact R.eg i hi hi h1
    · rw [← h1]; exact R.eq.refl i hi
    · have := R.eg (g i) (h.lt i hi) (h.lt i hi) (by rw [h.inv i hi]; exact h1)
      rw [h.inv i hi] at this
      exact R.eq.symm _ _ (h.lt i hi) hi this
  have hall := ht (fun x => x < n ∧ E 0 x) ⟨hn, R.eq.refl 0 hn⟩ (fun x hx hq => ⟨h.lt x hx, R.eq.trans _ _ _ hn hx (h.lt x hx) hq.2 (hg x hx)⟩) (fun x hx hq => ⟨hf.lt x hx, R.eq.trans _ _ _ hn hx (hf.lt x hx) hq.2 (R.ef x hx)⟩)
  have h1 : IsCls E n 1 := ⟨[0], ⟨by simpa using hn, by simp, fun x hx y hy _ => by simp at hx hy; rw [hx, hy], fun i hi => ⟨0, by simp, (hall i hi).2⟩⟩, rfl⟩
  have he := R.ce.uniq R.eq h1
  have := R.le
  have := R.ev
  subst hcc he
  exact ⟨by omega, by omega⟩
/-- The cycles of an involution. -/
theorem ivl_cls (h : Ivl g n) : ∀ k, k ≤ n → IsCls (onC fun i => sK g k i) n (n - qK g k) ∧ qK g k ≤ k
  | 0, _ => by
    have hfix : ∀ k i, itr (fun i => sK g 0 i) k i = i := fun k i => by
      induction k with
      | zero => rfl
      | succ k ih => show sK g 0 (itr _ k i) = i; rw [ih, sK_zero]
    refine ⟨⟨List.range n, ⟨fun x hx => List.mem_range.1 hx, List.nodup_range, fun x _ y _ hh => ?_, fun i hi => ⟨i, List.mem_range.2 hi, 0, rfl⟩⟩, by simp [qK]⟩, Nat.le_refl 0⟩
    obtain ⟨k, hk⟩ := hh
    rw [hfix] at hk
    exact hk
  | k + 1, hk => by
    obtain ⟨ih, hle⟩ := ivl_cls h k (by omega)
    have hP : Prm (fun i => sK g k i) n := sK_prm (f := fun i => i) h ⟨fun i hi => hi, fun i j _ _ e => e⟩ k
    by_cases hlt : k < g k
    · have hgk := h.lt k (by omega)
      have hq : qK g (k + 1) = qK g k + 1 := by show qK g k + (if k < g k then 1 else 0) = _; rw [if_pos hlt]
      have hfix : ∀ m, itr (fun i => sK g k i) m k = k := fun m => by
        induction m with
        | zero => rfl
        | succ m ihm => show sK g k (itr _ m k) = k; rw [ihm]; exact if_neg (by omega)
      have hon : ¬ onC (fun i => sK g k i) k (g k) := fun ⟨m, hm⟩ => by rw [hfix] at hm; omega
      obtain ⟨m, hm, hcm⟩ := mrg_cls (onC_eqv hP) (by omega) hgk hon ih
      refine ⟨?_, by omega⟩
      rw [hq, show n - (qK g k + 1) = m by omega]
      exact hcm.congr fun i j hi hj => by
        rw [← swp_merge hP (by omega) hgk hon i j hi hj]
        exact onC_congr (swp_prm hP (by omega) hgk) (fun x hx => (sK_swp h (by omega) hx hlt).symm) i j hi hj
    · have hq : qK g (k + 1) = qK g k := by show qK g k + (if k < g k then 1 else 0) = _; rw [if_neg hlt]; rfl
      rw [hq]
      exact ⟨ih.congr (onC_congr hP fun x hx => (sK_same h (by omega) hx hlt).symm), by omega⟩
theorem ivl_prm (h : Ivl g n) : Prm g n := ⟨h.lt, fun i j hi hj e => by rw [← h.inv i hi, e, h.inv j hj]⟩
/-- The Euler characteristic of a transitive action: even, at most 2. -/
theorem euler_bound (h : Ivl g n) (hf : Prm f n) (hn : 0 < n) (ht : ∀ Q : Nat → Prop, Q 0 → (∀ x, x < n → Q x → Q (g x)) → (∀ x, x < n → Q x → Q (f x)) → ∀ x, x < n → Q x) {s c0 c : Nat} (hs : IsCls (onC g) n s) (h0 : IsCls (onC f) n c0) (hc : IsCls (onC fun i => f (g i)) n c) : s + c + c0 ≤ n + 2 ∧ (s + c + c0 + n) % 2 = 0 := by
  obtain ⟨h1, h2⟩ := rie_end h hf hn ht h0 hc
  obtain ⟨h3, h4⟩ := ivl_cls h n (Nat.le_refl n)
  have := (h3.congr (onC_congr (sK_prm (f := fun i => i) h ⟨fun i hi => hi, fun i j _ _ e => e⟩ n) fun i hi => sK_full h hi)).uniq (onC_eqv (ivl_prm h)) hs
  omega
end
end Go.Proofs.Ytmikhkolbkdnpaa
namespace Go.Proofs.Ytmikhkolbkdnpaa
set_option linter.unusedVariables false

/-- The cycles that the code lists are as many as the classes. -/
theorem cyN_cls {f : Nat → Nat} {n : Nat} (hp : Prm f n) : IsCls (onC f) n (cyN f n).length := by
  have hI := cst_inv hp (inv2_id hp) n (Nat.le_refl n)
  have hon : ∀ x j, x < n → (uB f (fun i => i) n x j = true ↔ onC f x j) := fun x j hx => by
    rw [uB_iff hp (inv2_id hp) hx]; exact ⟨fun h => h.elim id id, .inl⟩
  have hl : (cyN f n).length = (cyP f n n).length := by unfold cyN; rw [List.length_map]
  rw [hl]
  have hidx : ∀ q (h : q < (cyP f n n).length), (cst (uB f (fun i => i) n) n).1 ((cyP f n n)[q]) = (q : Int) := fun q h =>
    (hI.iff _ (hI.bd _ (List.getElem_mem h)) q h).1 ((hon _ _ (hI.bd _ (List.getElem_mem h))).2 (onC_refl f _))
  refine ⟨cyP f n n, ⟨hI.bd, ?_, fun x hx y hy hr => ?_, fun i hi => ?_⟩, rfl⟩
  · rw [List.nodup_iff_pairwise_ne, List.pairwise_iff_getElem]
    intro q r hq hr hlt e
    have h1 := hidx q hq
    have h2 := hidx r hr
    rw [e] at h1
    omega
  · obtain ⟨q, hq, rfl⟩ := List.mem_iff_getElem.1 hx
    obtain ⟨r, hr', rfl⟩ := List.mem_iff_getElem.1 hy
    have h1 := (hI.iff _ (hI.bd _ (List.getElem_mem hr')) q hq).1 ((hon _ _ (hI.bd _ (List.getElem_mem hq))).2 hr)
    have h2 := hidx r hr'
    have e : q = r := by
      have h3 : (q : Int) = r := by rw [← h1]; exact h2
      omega
    subst e; rfl
  · have h1 := hI.all i hi
    have h2 := hI.rng i
    have hq : ((cst (uB f (fun i => i) n) n).1 i).toNat < (cyP f n n).length := by
      have h3 : (cyP f n n).length = (cst (uB f (fun i => i) n) n).2.length := rfl
      omega
    exact ⟨_, List.getElem_mem hq, (hon _ _ (hI.bd _ (List.getElem_mem hq))).1 ((hI.iff i hi _ hq).2 (by omega))⟩
/-- What the numbers of the orbits are: a map onto, whose fibres are the orbits. -/
structure QuO (z : Nat → Nat) (n m : Nat) (φ L : Nat → Nat) : Prop where
  lt : ∀ i, i < n → φ i < m
  le : ∀ q, q < m → L q < n
  at_ : ∀ q, q < m → φ (L q) = q
  iff : ∀ i j, i < n → j < n → (φ i = φ j ↔ j = i ∨ j = z i)
  zero : 0 < n → φ 0 = 0
theorem pjN_quo {z : Nat → Nat} {n : Nat} (hzl : ∀ i, i < n → z i < n) (hzz : ∀ i, i < n → z (z i) = i) : ∀ k, k ≤ n → (∀ j, j < k → (pjN z k).1 j < (pjN z k).2.length) ∧ (∀ q, q < (pjN z k).2.length → (pjN z k).2.getD q 0 < k ∧ (pjN z k).1 ((pjN z k).2.getD q 0) = q) ∧ (∀ i j, i < k → j < k → ((pjN z k).1 i = (pjN z k).1 j ↔ j = i ∨ j = z i)) ∧ (0 < k → (pjN z k).1 0 = 0)
  | 0, _ => ⟨fun j h => by omega, fun q h => by simp [pjN] at h, fun i j h => by omega, fun h => by omega⟩
  | k + 1, hk => by
    obtain ⟨h1, h2, h3, h4⟩ := pjN_quo hzl hzz k (by omega)
    have hkk := hzz k (by omega)
    by_cases h : z k < k
    · rw [pjN_old h]
      have hN : ∀ j, (if j = k then (pjN z k).1 (z k) else (pjN z k).1 j) = (pjN z k).1 (if j = k then z k else j) := fun j => by by_cases e : j = k <;> simp [e]
      refine ⟨fun j hj => ?_, fun q hq => ?_, fun i j hi hj => ?_, fun _ => ?_⟩
      · show (if j = k then (pjN z k).1 (z k) else (pjN z k).1 j) < _
        rw [hN]
        exact h1 _ (by split <;> omega)
      · obtain ⟨a, b⟩ := h2 q hq
        refine ⟨Nat.lt_succ_of_lt a, ?_⟩
        show (if (pjN z k).2.getD q 0 = k then (pjN z k).1 (z k) else (pjN z k).1 ((pjN z k).2.getD q 0)) = q
        rw [if_neg (by omega)]; exact b
      · show (if i = k then (pjN z k).1 (z k) else (pjN z k).1 i) = (if j = k then (pjN z k).1 (z k) else (pjN z k).1 j) ↔ _
        rw [hN, hN, h3 _ _ (by split <;> omega) (by split <;> omega)]
        by_cases e : i = k <;> by_cases e2 : j = k
        · simp [e, e2]
        · rw [if_pos e, if_neg e2, hkk, e]
          exact ⟨fun hh => hh.elim .inr .inl, fun hh => hh.elim .inr .inl⟩
        · rw [if_neg e, if_pos e2, e2]
          constructor
          · rintro (hh | hh)
            · right; rw [← hh, hkk]
            · left; rw [← hzz i (by omega), ← hh, hkk]
          · rintro (hh | hh)
            · exact absurd hh.symm e
            · left; rw [hh, hzz i (by omega)]
        · rw [if_neg e, if_neg e2]
      · show (if 0 = k then (pjN z k).1 (z k) else (pjN z k).1 0) = 0
        rw [if_neg (by omega)]; exact h4 (by omega)
    · rw [pjN_new h]
      have hl : ((pjN z k).2 ++ [k]).length = (pjN z k).2.length + 1 := by simp
      refine ⟨fun j hj => ?_, fun q hq => ?_, fun i j hi hj => ?_, fun _ => ?_⟩
      · show (if j = k then (pjN z k).2.length else (pjN z k).1 j) < ((pjN z k).2 ++ [k]).length
        rw [hl]
        by_cases e : j = k
        · rw [if_pos e]; omega
        · rw [if_neg e]; have := h1 j (by omega); omega
      · have hq' : q < (pjN z k).2.length + 1 := by rw [← hl]; exact hq
        show ((pjN z k).2 ++ [k]).getD q 0 < k + 1 ∧ (if ((pjN z k).2 ++ [k]).getD q 0 = k then (pjN z k).2.length else (pjN z k).1 (((pjN z k).2 ++ [k]).getD q 0)) = q
        rcases Nat.lt_or_ge q (pjN z k).2.length with h5 | h5
        · have e : ((pjN z k).2 ++ [k]).getD q 0 = (pjN z k).2.getD q 0 := by
            rw [List.getD_eq_getElem?_getD, List.getD_eq_getElem?_getD, List.getElem?_append_left h5]
          obtain ⟨a, b⟩ := h2 q h5
          rw [e, if_neg (by omega)]
          exact ⟨by omega, b⟩
        · have e0 : q = (pjN z k).2.length := by omega
          have e : ((pjN z k).2 ++ [k]).getD q 0 = k := by rw [e0]; simp [List.getD]
          rw [e, if_pos rfl]
          exact ⟨by omega, e0.symm⟩
      · show (if i = k then (pjN z k).2.length else (pjN z k).1 i) = (if j = k then (pjN z k).2.length else (pjN z k).1 j) ↔ _
        by_cases e : i = k <;> by_cases e2 : j = k
        · simp [e, e2]
        · rw [if_pos e, if_neg e2]
          have := h1 j (by omega)
          exact ⟨fun hh => by omega, fun hh => by rcases hh with hh | hh; (omega); (rw [e] at hh; omega)⟩
        · rw [if_neg e, if_pos e2]
          have := h1 i (by omega)
          refine ⟨fun hh => by omega, fun hh => ?_⟩
          rcases hh with hh | hh
          · omega
          · have := hzz i (by omega); rw [← hh, e2] at this; omega
        · rw [if_neg e, if_neg e2]; exact h3 i j (by omega) (by omega)
      · show (if 0 = k then (pjN z k).2.length else (pjN z k).1 0) = 0
        by_cases e : 0 = k
        · rw [if_pos e]; subst e; rfl
        · rw [if_neg e]; exact h4 (by omega)
theorem pjN_quo' {z : Nat → Nat} {n : Nat} (hzl : ∀ i, i < n → z i < n) (hzz : ∀ i, i < n → z (z i) = i) : QuO z n (pjN z n).2.length (pjN z n).1 (fun q => (pjN z n).2.getD q 0) := by
  obtain ⟨h1, h2, h3, h4⟩ := pjN_quo hzl hzz n (Nat.le_refl n)
  exact ⟨h1, fun q hq => (h2 q hq).1, fun q hq => (h2 q hq).2, h3, h4⟩
/-- A map of the points that commutes with z goes down to the orbits. -/
theorem QuO.down {z φ L F : Nat → Nat} {n m : Nat} (h : QuO z n m φ L) (hF : ∀ i, i < n → F i < n) (hc : ∀ i, i < n → F (z i) = z (F i)) (hzl : ∀ i, i < n → z i < n) {i : Nat} (hi : i < n) : φ (F (L (φ i))) = φ (F i) := by
  have h1 := h.le _ (h.lt i hi)
  have h2 := (h.iff i _ hi h1).1 (h.at_ _ (h.lt i hi)).symm
  rcases h2 with e | e
  · rw [e]
  · rw [e, hc i hi]
    exact ((h.iff _ _ (hF i hi) (hzl _ (hF i hi))).2 (.inr rfl)).symm
theorem QuO.prm {z φ L F : Nat → Nat} {n m : Nat} (h : QuO z n m φ L) (hF : Prm F n) (hc : ∀ i, i < n → F (z i) = z (F i)) (hzl : ∀ i, i < n → z i < n) : Prm (fun q => φ (F (L q))) m := by
  refine ⟨fun q hq => h.lt _ (hF.lt _ (h.le q hq)), fun q r hq hr e => ?_⟩
  have l1 := h.le q hq
  have l2 := h.le r hr
  have e2 := (h.iff _ _ (hF.lt _ l1) (hF.lt _ l2)).1 e
  have e3 : φ (L q) = φ (L r) := by
    refine (h.iff _ _ l1 l2).2 ?_
    rcases e2 with e2 | e2
    · exact .inl (hF.inj _ _ l2 l1 e2)
    · rw [← hc _ l1] at e2; exact .inr (hF.inj _ _ l2 (hzl _ l1) e2)
  rwa [h.at_ q hq, h.at_ r hr] at e3
theorem cls_id (m : Nat) : IsCls (onC fun i => i) m m := by
  have hfix : ∀ k i, itr (fun i => i) k i = i := fun k i => by
    induction k with
    | zero => rfl
    | succ k ih => exact ih
  exact ⟨List.range m, ⟨fun x hx => List.mem_range.1 hx, List.nodup_range, fun x _ y _ ⟨k, hk⟩ => by rw [hfix] at hk; exact hk, fun i hi => ⟨i, List.mem_range.2 hi, 0, rfl⟩⟩, by simp⟩
/-- Two quotients with the same fibres: a map that goes down to both has as many cycles on both. -/
theorem quo_cls {n ma mb ca cb : Nat} {φ ψ F fa fb : Nat → Nat} (hφ : ∀ i, i < n → φ i < ma) (oφ : ∀ j, j < ma → ∃ i, i < n ∧ φ i = j) (hψ : ∀ i, i < n → ψ i < mb) (oψ : ∀ j, j < mb → ∃ i, i < n ∧ ψ i = j) (hiff : ∀ i j, i < n → j < n → (φ i = φ j ↔ ψ i = ψ j))
    (hF : ∀ i, i < n → F i < n) (da : ∀ i, i < n → fa (φ i) = φ (F i)) (db : ∀ i, i < n → fb (ψ i) = ψ (F i)) (pa : Prm fa ma) (pb : Prm fb mb) (h : IsCls (onC fa) ma ca) (h' : IsCls (onC fb) mb cb) : ca = cb := by
  have hl : ∀ k i, i < n → itr F k i < n := fun k i hi => by
    induction k with
    | zero => exact hi
    | succ k ih => exact hF _ ih
  have ea : ∀ k i, i < n → itr fa k (φ i) = φ (itr F k i) := fun k i hi => by
    induction k with
    | zero => rfl
    | succ k ih => show fa (itr fa k (φ i)) = φ (F (itr F k i)); rw [ih, da _ (hl k i hi)]
  have eb : ∀ k i, i < n → itr fb k (ψ i) = ψ (itr F k i) := fun k i hi => by
    induction k with
    | zero => rfl
    | succ k ih => show fb (itr fb k (ψ i)) = ψ (F (itr F k i)); rw [ih, db _ (hl k i hi)]
  have hRa : ∀ i j, i < n → j < n → ((∃ k, φ (itr F k i) = φ j) ↔ onC fa (φ i) (φ j)) := fun i j hi _ => ⟨fun ⟨k, e⟩ => ⟨k, by rw [ea k i hi]; exact e⟩, fun ⟨k, e⟩ => ⟨k, by rw [← ea k i hi]; exact e⟩⟩
  have hRb : ∀ i j, i < n → j < n → ((∃ k, φ (itr F k i) = φ j) ↔ onC fb (ψ i) (ψ j)) := fun i j hi hj => ⟨fun ⟨k, e⟩ => ⟨k, by rw [eb k i hi]; exact (hiff _ _ (hl k i hi) hj).1 e⟩, fun ⟨k, e⟩ => ⟨k, (hiff _ _ (hl k i hi) hj).2 (by rw [← eb k i hi]; exact e)⟩⟩
  have hE : Eqv (fun i j => ∃ k, φ (itr F k i) = φ j) n := by
    have hq := onC_eqv pa
    refine ⟨fun i hi => ⟨0, rfl⟩, fun i j hi hj e => ?_, fun i j k hi hj hk e e' => ?_⟩
    · exact (hRa j i hj hi).2 (hq.symm _ _ (hφ i hi) (hφ j hj) ((hRa i j hi hj).1 e))
    · exact (hRa i k hi hk).2 (hq.trans _ _ _ (hφ i hi) (hφ j hj) (hφ k hk) ((hRa i j hi hj).1 e) ((hRa j k hj hk).1 e'))
  obtain ⟨c, hc⟩ := cls_ex hE
  rw [← IsCls.map hE (onC_eqv pa) hc h φ hφ oφ hRa, ← IsCls.map hE (onC_eqv pb) hc h' ψ hψ oψ hRb]
/-- What an action says of its projective action. -/
structure PAct (g f : Nat → Nat) (n : Nat) : Prop where
  gp : Prm g n
  fp : Prm f n
  pos : 0 < n
  zz : ∀ i, i < n → g (g (g (g i))) = i
  gc : ∀ i, i < n → g (g (g i)) = g (g (g i))
  fc : ∀ i, i < n → f (g (g i)) = g (g (f i))
  full : ∀ Q : Nat → Prop, Q 0 → (∀ x, x < n → Q x → Q (g x)) → (∀ x, x < n → Q x → Q (f x)) → ∀ x, x < n → Q x
theorem pact_of {S T : List Int} (h : Act2 S T) : PAct (fnz S) (fnz T) S.length := by
  have hz := rel_inv h.ps h.pt h.rel
  have h0 := h.pos
  refine ⟨h.ps, h.pt, by omega, fun i hi => (h.rel i hi).1, fun i hi => rfl, fun i hi => ?_, fun Q q0 qg qf x hx => ?_⟩
  · have := Inv2.itr h.pt hz hi 1
    exact this
  · exact bst_all h.ps h.pt (by omega) q0 qg qf S.length x (mem_full (bst_nodup _ _ _ _) h.full (bst_lt h.ps h.pt (by omega) _) hx)
def zOf (g : Nat → Nat) (i : Nat) : Nat := g (g i)
def phO (g : Nat → Nat) (n : Nat) : Nat → Nat := (pjN (zOf g) n).1
def lsO (g : Nat → Nat) (n : Nat) (q : Nat) : Nat := (pjN (zOf g) n).2.getD q 0
def mO (g : Nat → Nat) (n : Nat) : Nat := (pjN (zOf g) n).2.length
section
variable {g f : Nat → Nat} {n : Nat}
theorem PAct.zl (h : PAct g f n) (i : Nat) (hi : i < n) : zOf g i < n := h.gp.lt _ (h.gp.lt i hi)
theorem PAct.quo (h : PAct g f n) : QuO (zOf g) n (mO g n) (phO g n) (lsO g n) := pjN_quo' h.zl fun i hi => h.zz i hi
theorem PAct.mpos (h : PAct g f n) : 0 < mO g n := by have := h.quo.lt 0 h.pos; omega
theorem PAct.mle (h : PAct g f n) : mO g n ≤ n := pjN_len _ _
theorem PAct.tur (h : PAct g f n) : Prm (fun i => f (g i)) n := ⟨fun i hi => h.fp.lt _ (h.gp.lt i hi), fun i j hi hj e => h.gp.inj _ _ hi hj (h.fp.inj _ _ (h.gp.lt i hi) (h.gp.lt j hj) e)⟩
theorem PAct.tc (h : PAct g f n) (i : Nat) (hi : i < n) : f (g (zOf g i)) = zOf g (f (g i)) := by
  have := h.fc (g i) (h.gp.lt i hi)
  exact this
/-- The two permutations of the projective action. -/
def sO (g : Nat → Nat) (n q : Nat) : Nat := phO g n (g (lsO g n q))
def tO (g f : Nat → Nat) (n q : Nat) : Nat := phO g n (f (lsO g n q))
theorem PAct.ps (h : PAct g f n) : Prm (sO g n) (mO g n) := h.quo.prm h.gp (fun i hi => rfl) h.zl
theorem PAct.pt (h : PAct g f n) : Prm (tO g f n) (mO g n) := h.quo.prm h.fp (fun i hi => h.fc i hi) h.zl
theorem PAct.ds (h : PAct g f n) (i : Nat) (hi : i < n) : sO g n (phO g n i) = phO g n (g i) := h.quo.down (fun i hi => h.gp.lt i hi) (fun i hi => rfl) h.zl hi
theorem PAct.dt (h : PAct g f n) (i : Nat) (hi : i < n) : tO g f n (phO g n i) = phO g n (f i) := h.quo.down (fun i hi => h.fp.lt i hi) (fun i hi => h.fc i hi) h.zl hi
theorem PAct.onto (h : PAct g f n) (j : Nat) (hj : j < mO g n) : ∃ i, i < n ∧ phO g n i = j := ⟨_, h.quo.le j hj, h.quo.at_ j hj⟩
theorem PAct.ivl (h : PAct g f n) : Ivl (sO g n) (mO g n) := by
  refine ⟨h.ps.lt, fun j hj => ?_⟩
  obtain ⟨i, hi, rfl⟩ := h.onto j hj
  rw [h.ds i hi, h.ds _ (h.gp.lt i hi)]
  exact ((h.quo.iff i _ hi (h.zl i hi)).2 (.inr rfl)).symm
theorem PAct.all (h : PAct g f n) (Q : Nat → Prop) (q0 : Q 0) (qg : ∀ x, x < mO g n → Q x → Q (sO g n x)) (qf : ∀ x, x < mO g n → Q x → Q (tO g f n x)) (x : Nat) (hx : x < mO g n) : Q x := by
  obtain ⟨i, hi, rfl⟩ := h.onto x hx
  refine h.full (fun i => Q (phO g n i)) (by show Q (phO g n 0); rw [show phO g n 0 = 0 from h.quo.zero h.pos]; exact q0) (fun i hi hq => ?_) (fun i hi hq => ?_) i hi
  · show Q (phO g n (g i)); rw [← h.ds i hi]; exact qg _ (h.quo.lt i hi) hq
  · show Q (phO g n (f i)); rw [← h.dt i hi]; exact qf _ (h.quo.lt i hi) hq
/-- The Euler characteristic. -/
def eulZ (g f : Nat → Nat) (n : Nat) : Int := ((cyN (sO g n) (mO g n)).length : Int) + (cyN (fun i => tO g f n (sO g n i)) (mO g n)).length + (cyN (tO g f n) (mO g n)).length - mO g n
theorem PAct.ptu (h : PAct g f n) : Prm (fun i => tO g f n (sO g n i)) (mO g n) := ⟨fun i hi => h.pt.lt _ (h.ps.lt i hi), fun i j hi hj e => h.ps.inj _ _ hi hj (h.pt.inj _ _ (h.ps.lt i hi) (h.ps.lt j hj) e)⟩
theorem PAct.eul (h : PAct g f n) : eulZ g f n ≤ 2 ∧ eulZ g f n % 2 = 0 := by
  obtain ⟨h1, h2⟩ := euler_bound h.ivl h.pt h.mpos h.all (cyN_cls h.ps) (cyN_cls h.pt) (cyN_cls h.ptu)
  unfold eulZ
  omega
theorem PAct.bd (h : PAct g f n) : (cyN (sO g n) (mO g n)).length ≤ mO g n ∧ (cyN (fun i => tO g f n (sO g n i)) (mO g n)).length ≤ mO g n ∧ (cyN (tO g f n) (mO g n)).length ≤ mO g n := by
  have key : ∀ F, Prm F (mO g n) → (cyN F (mO g n)).length ≤ mO g n := fun F hF => by
    have := (cst_inv hF (inv2_id hF) (mO g n) (Nat.le_refl _)).len
    have e : (cyN F (mO g n)).length = (cst (uB F (fun i => i) (mO g n)) (mO g n)).2.length := by unfold cyN; rw [List.length_map]; rfl
    omega
  exact ⟨key _ h.ps, key _ h.ptu, key _ h.pt⟩
/-- Another numbering of the points: the same Euler characteristic. -/
theorem PAct.conj {g' f' p : Nat → Nat} (h : PAct g f n) (h' : PAct g' f' n) (hp : Prm p n) (op : ∀ j, j < n → ∃ i, i < n ∧ p i = j) (hg : ∀ i, i < n → g' (p i) = p (g i)) (hf : ∀ i, i < n → f' (p i) = p (f i)) : eulZ g f n = eulZ g' f' n := by
  have hψ : ∀ i, i < n → phO g' n (p i) < mO g' n := fun i hi => h'.quo.lt _ (hp.lt i hi)
  have oψ : ∀ j, j < mO g' n → ∃ i, i < n ∧ phO g' n (p i) = j := fun j hj => by
    obtain ⟨k, hk, e⟩ := h'.onto j hj
    obtain ⟨i, hi, e2⟩ := op k hk
    exact ⟨i, hi, by rw [e2]; exact e⟩
  have hz : ∀ i, i < n → zOf g' (p i) = p (zOf g i) := fun i hi => by show g' (g' (p i)) = p (g (g i)); rw [hg i hi, hg _ (h.gp.lt i hi)]
  have hiff : ∀ i j, i < n → j < n → (phO g n i = phO g n j ↔ phO g' n (p i) = phO g' n (p j)) := fun i j hi hj => by
    rw [h.quo.iff i j hi hj, h'.quo.iff _ _ (hp.lt i hi) (hp.lt j hj), hz i hi]
    constructor
    · rintro (e | e)
      · left; rw [e]
      · right; rw [e]
    · rintro (e | e)
      · left; exact hp.inj _ _ hj hi e
      · right; exact hp.inj _ _ hj (h.zl i hi) e
  have k := fun {F fa fb : Nat → Nat} {ca cb : Nat} (hF : ∀ i, i < n → F i < n) => quo_cls (F := F) (fa := fa) (fb := fb) (ca := ca) (cb := cb) h.quo.lt h.onto hψ oψ hiff hF
  have e0 := k (F := fun i => i) (fa := fun i => i) (fb := fun i => i) (fun i hi => hi) (fun i _ => rfl) (fun i _ => rfl) ⟨fun i hi => hi, fun i j _ _ e => e⟩ ⟨fun i hi => hi, fun i j _ _ e => e⟩ (cls_id _) (cls_id _)
  have e1 := k (F := g) (fun i hi => h.gp.lt i hi) h.ds (fun i hi => by rw [h'.ds _ (hp.lt i hi), hg i hi]) h.ps h'.ps (cyN_cls h.ps) (cyN_cls h'.ps)
  have e2 := k (F := f) (fun i hi => h.fp.lt i hi) h.dt (fun i hi => by rw [h'.dt _ (hp.lt i hi), hf i hi]) h.pt h'.pt (cyN_cls h.pt) (cyN_cls h'.pt)
  have e3 := k (F := fun i => f (g i)) (fa := fun i => tO g f n (sO g n i)) (fb := fun i => tO g' f' n (sO g' n i)) (fun i hi => h.fp.lt _ (h.gp.lt i hi)) (fun i hi => by show tO g f n (sO g n (phO g n i)) = _; rw [h.ds i hi, h.dt _ (h.gp.lt i hi)]) (fun i hi => by show tO g' f' n (sO g' n (phO g' n (p i))) = _; rw [h'.ds _ (hp.lt i hi), h'.dt _ (h'.gp.lt _ (hp.lt i hi)), hg i hi, hf _ (h.gp.lt i hi)]) h.ptu h'.ptu (cyN_cls h.ptu) (cyN_cls h'.ptu)
  unfold eulZ
  rw [e1, e2, e3, e0]
end
end Go.Proofs.Ytmikhkolbkdnpaa
namespace Go.Proofs.Ytmikhkolbkdnpaa
set_option linter.unusedVariables false

section
variable {g f : Nat → Nat} {n i : Nat}
theorem bst_sub : ∀ m k, k ≤ m → ∀ x ∈ bst g f i k, x ∈ bst g f i m
  | 0, k, h, x, hx => by rw [show k = 0 by omega] at hx; exact hx
  | m + 1, k, h, x, hx => by
    rcases Nat.lt_or_ge m k with h1 | h1
    · rw [show k = m + 1 by omega] at hx; exact hx
    · have ih := bst_sub m k h1 x hx
      unfold bst; split
      · exact vis_mem.2 (.inl (vis_mem.2 (.inl ih)))
      · exact ih
theorem bst_get : ∀ m k, k ≤ m → ∀ q, q < (bst g f i k).length → (bst g f i m).getD q 0 = (bst g f i k).getD q 0 ∧ q < (bst g f i m).length
  | 0, k, h, q, hq => by rw [show k = 0 by omega] at hq ⊢; exact ⟨rfl, hq⟩
  | m + 1, k, h, q, hq => by
    rcases Nat.lt_or_ge m k with h1 | h1
    · rw [show k = m + 1 by omega] at hq ⊢; exact ⟨rfl, hq⟩
    · obtain ⟨a, b⟩ := bst_get m k h1 q hq
      by_cases hl : m < (bst g f i m).length
      · rw [bst_step hl]
        have l1 := vis_len (bst g f i m) (g ((bst g f i m).getD m 0))
        have l2 := vis_len (vis (bst g f i m) (g ((bst g f i m).getD m 0))) (f ((bst g f i m).getD m 0))
        rw [vis_get (by omega), vis_get b]
        exact ⟨a, by omega⟩
      · have e : bst g f i (m + 1) = bst g f i m := if_neg hl
        rw [e]; exact ⟨a, b⟩
theorem bst_closed (hg : Prm g n) (hf : Prm f n) (hi : i < n) {x : Nat} (hx : x ∈ bst g f i n) : g x ∈ bst g f i n ∧ f x ∈ bst g f i n := by
  obtain ⟨q, hq, rfl⟩ := List.mem_iff_getElem.1 hx
  have hle := bst_le hg hf hi n
  have hqq : q < (bst g f i q).length := by
    rcases Nat.lt_or_ge q (bst g f i q).length with h | h
    · exact h
    · have := bst_stay h n (by omega)
      rw [this] at hq
      omega
  obtain ⟨e, _⟩ := bst_get (g := g) (f := f) (i := i) n q (by omega) q hqq
  have e2 : (bst g f i n)[q] = (bst g f i q).getD q 0 := by
    rw [← e, List.getD_eq_getElem?_getD, List.getElem?_eq_getElem hq]; rfl
  rw [e2]
  have hs := bst_step hqq
  constructor
  · refine bst_sub n (q + 1) (by omega) _ ?_
    rw [hs]
    exact vis_mem.2 (.inl (vis_mem.2 (.inr rfl)))
  · refine bst_sub n (q + 1) (by omega) _ ?_
    rw [hs]
    exact vis_mem.2 (.inr rfl)
theorem back_in {F : Nat → Nat} {C : Nat → Prop} (hF : Prm F n) (hc : ∀ x, C x → C (F x)) {x : Nat} (hx : x < n) (h : C (F x)) : C x := by
  obtain ⟨c, _, hp⟩ := per_ex hF hx
  have h1 : ∀ k, C (itr F k (F x)) := fun k => by
    induction k with
    | zero => exact h
    | succ k ih => exact hc _ ih
  have h2 := itr_add F x 1 (c - 1)
  rw [show 1 + (c - 1) = c by have := hp.pos; omega, hp.back] at h2
  rw [h2]; exact h1 (c - 1)
theorem bst_in (h : PAct g f n) (hi : i < n) (x : Nat) (hx : x < n) : x ∈ bst g f i n := by
  have hcl := fun x (hx : x ∈ bst g f i n) => bst_closed h.gp h.fp hi hx
  have hi0 : i ∈ bst g f i n := bst_sub n 0 (Nat.zero_le _) i (by simp [bst])
  by_cases h0 : 0 ∈ bst g f i n
  · exact h.full (fun x => x ∈ bst g f i n) h0 (fun x _ hq => (hcl x hq).1) (fun x _ hq => (hcl x hq).2) x hx
  · have := h.full (fun x => x < n → x ∉ bst g f i n) (fun _ => h0) (fun x hx hq _ hm => hq hx (back_in (C := fun x => x ∈ bst g f i n) h.gp (fun x hx => (hcl x hx).1) hx hm)) (fun x hx hq _ hm => hq hx (back_in (C := fun x => x ∈ bst g f i n) h.fp (fun x hx => (hcl x hx).2) hx hm)) i hi hi
    exact absurd hi0 this
theorem bst_full (h : PAct g f n) (hi : i < n) : (bst g f i n).length = n := by
  refine Nat.le_antisymm (bst_le h.gp h.fp hi n) ?_
  have := List.Nodup.length_le_of_subset (l₁ := List.range n) (l₂ := bst g f i n) List.nodup_range fun x hx => bst_in h hi x (List.mem_range.1 hx)
  simpa using this
theorem bst_alli (hg : Prm g n) (hf : Prm f n) (hi : i < n) {Q : Nat → Prop} (q0 : Q i) (qg : ∀ x, x < n → Q x → Q (g x)) (qf : ∀ x, x < n → Q x → Q (f x)) : ∀ k, ∀ x ∈ bst g f i k, Q x
  | 0, x, h => by simp [bst] at h; rw [h]; exact q0
  | k + 1, x, h => by
    unfold bst at h; split at h
    · rename_i hk
      have h1 := bst_lt hg hf hi k _ (getD_mem hk)
      have h2 := bst_alli hg hf hi q0 qg qf k _ (getD_mem hk)
      rcases vis_mem.1 h with h | rfl
      · rcases vis_mem.1 h with h | rfl
        · exact bst_alli hg hf hi q0 qg qf k x h
        · exact qg _ h1 h2
      · exact qf _ h1 h2
    · exact bst_alli hg hf hi q0 qg qf k x h
/-- The points in the order of the search, and their places. -/
def ordO (g f : Nat → Nat) (n i k : Nat) : Nat := (bst g f i n).getD k 0
def plcO (g f : Nat → Nat) (n i : Nat) : Nat → Nat := plN (ordO g f n i) n
theorem ord_lt (h : PAct g f n) (hi : i < n) (k : Nat) (hk : k < n) : ordO g f n i k < n := bst_lt h.gp h.fp hi n _ (getD_mem (by rw [bst_full h hi]; exact hk))
theorem ord_inj (h : PAct g f n) (hi : i < n) (j k : Nat) (hj : j < n) (hk : k < n) (e : ordO g f n i j = ordO g f n i k) : j = k := by
  have hl := bst_full h hi
  have hd := bst_nodup g f i n
  unfold ordO at e
  rw [List.getD_eq_getElem?_getD, List.getD_eq_getElem?_getD, List.getElem?_eq_getElem (by omega), List.getElem?_eq_getElem (by omega)] at e
  have hpw := List.pairwise_iff_getElem.1 hd
  have e' : (bst g f i n)[j]'(by omega) = (bst g f i n)[k]'(by omega) := e
  rcases Nat.lt_trichotomy j k with h1 | h1 | h1
  · exact absurd e' (hpw j k (by omega) (by omega) h1)
  · exact h1
  · exact absurd e'.symm (hpw k j (by omega) (by omega) h1)
theorem plN_at {o : Nat → Nat} (hinj : ∀ j k, j < n → k < n → o j = o k → j = k) : ∀ m, m ≤ n → ∀ k, k < m → plN o m (o k) = k
  | 0, _, k, h => by omega
  | m + 1, hm, k, h => by
    show (if o k = o m then m else plN o m (o k)) = k
    by_cases e : o k = o m
    · rw [if_pos e]; exact (hinj k m (by omega) (by omega) e).symm
    · rw [if_neg e]
      refine plN_at hinj m (by omega) k ?_
      rcases Nat.lt_or_ge k m with h1 | h1
      · exact h1
      · exact absurd (by rw [show k = m by omega]) e
theorem plc_ord (h : PAct g f n) (hi : i < n) (k : Nat) (hk : k < n) : plcO g f n i (ordO g f n i k) = k := plN_at (ord_inj h hi) n (Nat.le_refl n) k hk
theorem ord_ex (h : PAct g f n) (hi : i < n) (x : Nat) (hx : x < n) : ∃ k, k < n ∧ ordO g f n i k = x := by
  obtain ⟨q, hq, e⟩ := List.mem_iff_getElem.1 (bst_in h hi x hx)
  have hl := bst_full h hi
  refine ⟨q, by omega, ?_⟩
  unfold ordO
  rw [List.getD_eq_getElem?_getD, List.getElem?_eq_getElem hq, ← e]; rfl
theorem plc_prm (h : PAct g f n) (hi : i < n) : Prm (plcO g f n i) n := by
  refine ⟨fun x hx => ?_, fun x y hx hy e => ?_⟩
  · obtain ⟨k, hk, rfl⟩ := ord_ex h hi x hx
    rw [plc_ord h hi k hk]; exact hk
  · obtain ⟨k, hk, rfl⟩ := ord_ex h hi x hx
    obtain ⟨j, hj, rfl⟩ := ord_ex h hi y hy
    rw [plc_ord h hi k hk, plc_ord h hi j hj] at e
    rw [e]
theorem ord_plc (h : PAct g f n) (hi : i < n) (x : Nat) (hx : x < n) : ordO g f n i (plcO g f n i x) = x := by
  obtain ⟨k, hk, rfl⟩ := ord_ex h hi x hx
  rw [plc_ord h hi k hk]
theorem plc_base (h : PAct g f n) (hi : i < n) : plcO g f n i i = 0 := by
  have e : ordO g f n i 0 = i := by
    obtain ⟨e, _⟩ := bst_get (g := g) (f := f) (i := i) n 0 (Nat.zero_le _) 0 (by simp [bst])
    unfold ordO; rw [e]; simp [bst]
  have := plc_ord h hi 0 h.pos
  rwa [e] at this
/-- The lists of the action based at i. -/
def bS (g f : Nat → Nat) (n i : Nat) : List Nat := (List.range n).map fun k => plcO g f n i (g (ordO g f n i k))
def bT (g f : Nat → Nat) (n i : Nat) : List Nat := (List.range n).map fun k => plcO g f n i (f (ordO g f n i k))
theorem fnz_map {F : Nat → Nat} {k : Nat} (hk : k < n) : fnz (iz ((List.range n).map F)) k = F k := by
  unfold fnz iz
  simp [List.getD, hk]
theorem bS_pl (h : PAct g f n) (hi : i < n) (x : Nat) (hx : x < n) : fnz (iz (bS g f n i)) (plcO g f n i x) = plcO g f n i (g x) := by
  unfold bS
  rw [fnz_map ((plc_prm h hi).lt x hx), ord_plc h hi x hx]
theorem bT_pl (h : PAct g f n) (hi : i < n) (x : Nat) (hx : x < n) : fnz (iz (bT g f n i)) (plcO g f n i x) = plcO g f n i (f x) := by
  unfold bT
  rw [fnz_map ((plc_prm h hi).lt x hx), ord_plc h hi x hx]
theorem plc_onto (h : PAct g f n) (hi : i < n) (j : Nat) (hj : j < n) : ∃ x, x < n ∧ plcO g f n i x = j := ⟨_, ord_lt h hi j hj, plc_ord h hi j hj⟩
theorem cj_prm {p G F : Nat → Nat} (hp : Prm p n) (op : ∀ j, j < n → ∃ x, x < n ∧ p x = j) (hF : Prm F n) (e : ∀ x, x < n → G (p x) = p (F x)) : Prm G n := by
  refine ⟨fun j hj => ?_, fun j k hj hk he => ?_⟩
  · obtain ⟨x, hx, rfl⟩ := op j hj
    rw [e x hx]; exact hp.lt _ (hF.lt x hx)
  · obtain ⟨x, hx, rfl⟩ := op j hj
    obtain ⟨y, hy, rfl⟩ := op k hk
    rw [e x hx, e y hy] at he
    rw [hF.inj x y hx hy (hp.inj _ _ (hF.lt x hx) (hF.lt y hy) he)]
theorem base_pact (h : PAct g f n) (hi : i < n) : PAct (fnz (iz (bS g f n i))) (fnz (iz (bT g f n i))) n := by
  have hp := plc_prm h hi
  have op := plc_onto h hi
  have eg := bS_pl h hi
  have ef := bT_pl h hi
  have gl := fun x (hx : x < n) => h.gp.lt x hx
  have fl := fun x (hx : x < n) => h.fp.lt x hx
  refine ⟨cj_prm hp op h.gp eg, cj_prm hp op h.fp ef, h.pos, fun j hj => ?_, fun j hj => rfl, fun j hj => ?_, fun Q q0 qg qf x hx => ?_⟩
  · obtain ⟨x, hx, rfl⟩ := op j hj
    rw [eg x hx, eg _ (gl x hx), eg _ (gl _ (gl x hx)), eg _ (gl _ (gl _ (gl x hx))), h.zz x hx]
  · obtain ⟨x, hx, rfl⟩ := op j hj
    rw [eg x hx, eg _ (gl x hx), ef _ (gl _ (gl x hx)), ef x hx, eg _ (fl x hx), eg _ (gl _ (fl x hx)), h.fc x hx]
  · obtain ⟨y, hy, rfl⟩ := op x hx
    refine bst_alli h.gp h.fp hi (Q := fun y => Q (plcO g f n i y)) (by show Q (plcO g f n i i); rw [plc_base h hi]; exact q0) (fun y hy hq => ?_) (fun y hy hq => ?_) n y (bst_in h hi y hy)
    · show Q (plcO g f n i (g y)); rw [← eg y hy]; exact qg _ (hp.lt y hy) hq
    · show Q (plcO g f n i (f y)); rw [← ef y hy]; exact qf _ (hp.lt y hy) hq
theorem base_eul (h : PAct g f n) (hi : i < n) : eulZ (fnz (iz (bS g f n i))) (fnz (iz (bT g f n i))) n = eulZ g f n :=
  (h.conj (base_pact h hi) (plc_prm h hi) (plc_onto h hi) (bS_pl h hi) (bT_pl h hi)).symm
theorem okP_of {F : Nat → Nat} (hF : Prm F n) : okP (iz ((List.range n).map F)) := by
  refine ⟨fun x hx => ?_, ?_⟩
  · unfold iz at hx ⊢
    obtain ⟨y, hy, rfl⟩ := List.mem_map.1 hx
    obtain ⟨k, hk, rfl⟩ := List.mem_map.1 hy
    have := hF.lt k (List.mem_range.1 hk)
    simp
    exact this
  · unfold iz
    rw [List.map_map]
    have h1 : ((List.range n).map F).Nodup := nodup_map_on List.nodup_range fun x hx y hy e => hF.inj x y (List.mem_range.1 hx) (List.mem_range.1 hy) e
    rw [← List.map_map]
    refine List.pairwise_map.2 (h1.imp fun {a b} hne e => hne (by omega))
end
theorem base_act {S T : List Int} (h : Act2 S T) {i : Nat} (hi : i < S.length) : Act2 (iz (bS (fnz S) (fnz T) S.length i)) (iz (bT (fnz S) (fnz T) S.length i)) := by
  have hP := pact_of h
  have hB := base_pact hP hi
  have l1 : (iz (bS (fnz S) (fnz T) S.length i)).length = S.length := by rw [iz_len]; unfold bS; simp
  have l2 : (iz (bT (fnz S) (fnz T) S.length i)).length = S.length := by rw [iz_len]; unfold bT; simp
  have op := plc_onto hP hi
  have eg := bS_pl hP hi
  have ef := bT_pl hP hi
  have gl := fun x (hx : x < S.length) => h.ps.lt x hx
  have fl := fun x (hx : x < S.length) => h.pt.lt x hx
  have hp := plc_prm hP hi
  refine ⟨by rw [l1]; exact h.pos, by rw [l1]; exact h.le, by rw [l1, l2], okP_of ?_, okP_of ?_, ?_, ?_⟩
  · exact ⟨fun k hk => hp.lt _ (gl _ (ord_lt hP hi k hk)), fun j k hj hk e => ord_inj hP hi j k hj hk (h.ps.inj _ _ (ord_lt hP hi j hj) (ord_lt hP hi k hk) (hp.inj _ _ (gl _ (ord_lt hP hi j hj)) (gl _ (ord_lt hP hi k hk)) e))⟩
  · exact ⟨fun k hk => hp.lt _ (fl _ (ord_lt hP hi k hk)), fun j k hj hk e => ord_inj hP hi j k hj hk (h.pt.inj _ _ (ord_lt hP hi j hj) (ord_lt hP hi k hk) (hp.inj _ _ (fl _ (ord_lt hP hi j hj)) (fl _ (ord_lt hP hi k hk)) e))⟩
  · rw [l1]
    intro j hj
    obtain ⟨x, hx, rfl⟩ := op j hj
    have hr := h.rel x hx
    refine ⟨hB.zz _ (hp.lt x hx), ?_⟩
    rw [eg x hx, ef _ (gl x hx), eg _ (fl _ (gl x hx)), ef _ (gl _ (fl _ (gl x hx))), eg _ (fl _ (gl _ (fl _ (gl x hx)))), ef _ (gl _ (fl _ (gl _ (fl _ (gl x hx))))), eg _ (gl x hx), hr.2]
  · rw [l1]; exact bst_full hB hB.pos
end Go.Proofs.Ytmikhkolbkdnpaa
