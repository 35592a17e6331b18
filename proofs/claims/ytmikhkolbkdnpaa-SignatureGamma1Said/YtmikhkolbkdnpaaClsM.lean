/- The classes of the cusps of a coset action: plain mathematics. -/
import Derived.Test.YtmikhkolbkdnpaaActM
namespace Go.Proofs.Ytmikhkolbkdnpaa
set_option linter.unusedVariables false

/-- The length of a cycle, reckoned. -/
def perG (f : Nat → Nat) (i : Nat) : Nat → Nat → Nat → Nat
  | 0, k, _ => k
  | m + 1, k, x => if x = i then k else perG f i m (k + 1) (f x)
def perO (f : Nat → Nat) (n i : Nat) : Nat := perG f i n 1 (f i)
theorem perG_spec {f : Nat → Nat} {i c : Nat} (h : IsPer f i c) : ∀ m k, 1 ≤ k → k ≤ c → c ≤ k + m → perG f i m k (itr f k i) = c
  | 0, k, _, h2, h3 => by show k = c; omega
  | m + 1, k, h1, h2, h3 => by
    show (if itr f k i = i then k else perG f i m (k + 1) (f (itr f k i))) = c
    by_cases e : itr f k i = i
    · rw [if_pos e]
      rcases Nat.lt_or_ge k c with hk | hk
      · exact absurd e (h.least k h1 hk)
      · omega
    · rw [if_neg e]
      have hk : k < c := by
        rcases Nat.lt_or_ge k c with hk | hk
        · exact hk
        · obtain rfl : k = c := by omega
          exact absurd h.back e
      exact perG_spec h m (k + 1) (by omega) hk (by omega)
theorem perO_spec {f : Nat → Nat} {n i : Nat} (hp : Prm f n) (hi : i < n) : IsPer f i (perO f n i) ∧ perO f n i ≤ n := by
  obtain ⟨c, h1, h2⟩ := per_ex hp hi
  have : perO f n i = c := perG_spec h2 n 1 (Nat.le_refl _) h2.pos (by omega)
  rw [this]; exact ⟨h2, h1⟩
/-- j lies on the cycle of i or of the point z i. -/
def uB (f z : Nat → Nat) (n i j : Nat) : Bool := (cyL f i (perO f n i)).contains j || (cyL f (z i) (perO f n (z i))).contains j
theorem cy_on {f : Nat → Nat} {n i j : Nat} (hp : Prm f n) (hi : i < n) : (cyL f i (perO f n i)).contains j = true ↔ onC f i j := by
  rw [List.contains_iff_mem]; exact cyL_mem (perO_spec hp hi).1
/-- Of z: an involution that commutes with f. -/
structure Inv2 (f z : Nat → Nat) (n : Nat) : Prop where
  lt : ∀ i, i < n → z i < n
  inv : ∀ i, i < n → z (z i) = i
  com : ∀ i, i < n → f (z i) = z (f i)
theorem Inv2.itr {f z : Nat → Nat} {n : Nat} (hp : Prm f n) (hz : Inv2 f z n) {i : Nat} (hi : i < n) : ∀ k, itr f k (z i) = z (itr f k i)
  | 0 => rfl
  | k + 1 => by show f (Proofs.Ytmikhkolbkdnpaa.itr f k (z i)) = z (f (Proofs.Ytmikhkolbkdnpaa.itr f k i)); rw [Inv2.itr hp hz hi k, hz.com _ (hp.itr_lt hi k)]
theorem Inv2.on {f z : Nat → Nat} {n i j : Nat} (hp : Prm f n) (hz : Inv2 f z n) (hi : i < n) : onC f i j → onC f (z i) (z j) := fun ⟨k, e⟩ => ⟨k, by rw [Inv2.itr hp hz hi, e]⟩
theorem Inv2.per {f z : Nat → Nat} {n i c : Nat} (hp : Prm f n) (hz : Inv2 f z n) (hi : i < n) (h : IsPer f i c) : IsPer f (z i) c where
  pos := h.pos
  back := by rw [Inv2.itr hp hz hi, h.back]
  least j h1 h2 e := by
    rw [Inv2.itr hp hz hi] at e
    have := congrArg z e
    rw [hz.inv _ (hp.itr_lt hi j), hz.inv _ hi] at this
    exact h.least j h1 h2 this
section
variable {f z : Nat → Nat} {n : Nat}
theorem uB_iff (hp : Prm f n) (hz : Inv2 f z n) {i j : Nat} (hi : i < n) : uB f z n i j = true ↔ onC f i j ∨ onC f (z i) j := by
  unfold uB
  rw [Bool.or_eq_true, cy_on hp hi, cy_on hp (hz.lt i hi)]
theorem uB_refl (hp : Prm f n) (hz : Inv2 f z n) {i : Nat} (hi : i < n) : uB f z n i i = true := (uB_iff hp hz hi).2 (.inl (onC_refl f i))
theorem uB_bd (hp : Prm f n) (hz : Inv2 f z n) {i j : Nat} (hi : i < n) (h : uB f z n i j = true) : j < n := by
  rcases (uB_iff hp hz hi).1 h with h | h
  · exact onC_bd hp hi h
  · exact onC_bd hp (hz.lt i hi) h
theorem uB_symm (hp : Prm f n) (hz : Inv2 f z n) {i j : Nat} (hi : i < n) (h : uB f z n i j = true) : uB f z n j i = true := by
  have hj := uB_bd hp hz hi h
  rw [uB_iff hp hz hj]
  rcases (uB_iff hp hz hi).1 h with h | h
  · exact .inl (onC_symm hp hi h)
  · have h2 := onC_symm hp (hz.lt i hi) h
    have h3 := Inv2.on hp hz hj h2
    rw [hz.inv i hi] at h3
    exact .inr h3
theorem uB_trans (hp : Prm f n) (hz : Inv2 f z n) {i j k : Nat} (hi : i < n) (h : uB f z n i j = true) (h' : uB f z n j k = true) : uB f z n i k = true := by
  have hj := uB_bd hp hz hi h
  rw [uB_iff hp hz hi]
  rcases (uB_iff hp hz hi).1 h with h | h <;> rcases (uB_iff hp hz hj).1 h' with h' | h'
  · exact .inl (onC_trans h h')
  · exact .inr (onC_trans (Inv2.on hp hz hi h) h')
  · exact .inr (onC_trans h h')
  · have h3 := Inv2.on hp hz (hz.lt i hi) h
    rw [hz.inv i hi] at h3
    exact .inl (onC_trans h3 h')
end
/-- The classes behind the points below k: the class of each point (-1: none yet), and the least points. -/
def cst (u : Nat → Nat → Bool) : Nat → (Nat → Int) × List Nat
  | 0 => (fun _ => -1, [])
  | k + 1 => if 0 ≤ (cst u k).1 k then cst u k else (fun j => if u k j = true then (((cst u k).2.length : Nat) : Int) else (cst u k).1 j, (cst u k).2 ++ [k])
theorem cst_old {u : Nat → Nat → Bool} {k : Nat} (h : 0 ≤ (cst u k).1 k) : cst u (k + 1) = cst u k := if_pos h
theorem cst_new {u : Nat → Nat → Bool} {k : Nat} (h : ¬ 0 ≤ (cst u k).1 k) : cst u (k + 1) = (fun j => if u k j = true then (((cst u k).2.length : Nat) : Int) else (cst u k).1 j, (cst u k).2 ++ [k]) := if_neg h
structure CI (u : Nat → Nat → Bool) (n k : Nat) (s : (Nat → Int) × List Nat) : Prop where
  bd : ∀ p ∈ s.2, p < n
  iff : ∀ j, j < n → ∀ q (h : q < s.2.length), u s.2[q] j = true ↔ s.1 j = (q : Int)
  rng : ∀ j, s.1 j = -1 ∨ 0 ≤ s.1 j ∧ s.1 j < s.2.length
  all : ∀ j, j < k → 0 ≤ s.1 j
  len : s.2.length ≤ k
theorem cst_inv {f z : Nat → Nat} {n : Nat} (hp : Prm f n) (hz : Inv2 f z n) : ∀ k, k ≤ n → CI (uB f z n) n k (cst (uB f z n) k)
  | 0, _ => ⟨fun p h => absurd h (by simp [cst]), fun j _ q h => absurd h (by simp [cst]), fun j => .inl rfl, fun j h => by omega, Nat.le_refl _⟩
  | k + 1, hk => by
    have ih := cst_inv hp hz k (by omega)
    by_cases h : 0 ≤ (cst (uB f z n) k).1 k
    · rw [cst_old h]
      refine ⟨ih.bd, ih.iff, ih.rng, fun j hj => ?_, Nat.le_succ_of_le ih.len⟩
      rcases Nat.lt_or_ge j k with h1 | h1
      · exact ih.all j h1
      · rw [show j = k by omega]; exact h
    · rw [cst_new h]
      refine ⟨fun p hp' => ?_, fun j hj q hq => ?_, fun j => ?_, fun j hj => ?_, ?_⟩
      · rcases List.mem_append.1 hp' with hp' | hp'
        · exact ih.bd p hp'
        · rw [List.mem_singleton.1 hp']; omega
      · have hq' : q < (cst (uB f z n) k).2.length + 1 := by simpa using hq
        rcases Nat.lt_or_ge q (cst (uB f z n) k).2.length with h1 | h1
        · have e : ((cst (uB f z n) k).2 ++ [k])[q]'hq = (cst (uB f z n) k).2[q] := List.getElem_append_left h1
          show uB f z n (((cst (uB f z n) k).2 ++ [k])[q]'hq) j = true ↔ (if uB f z n k j = true then (((cst (uB f z n) k).2.length : Nat) : Int) else (cst (uB f z n) k).1 j) = (q : Int)
          rw [e]
          by_cases h2 : uB f z n k j = true
          · rw [if_pos h2]
            refine ⟨fun h3 => ?_, fun h3 => by omega⟩
            have h4 := uB_trans hp hz (ih.bd _ (List.getElem_mem h1)) h3 (uB_symm hp hz (by omega) h2)
            have := (ih.iff k (by omega) q h1).1 h4
            omega
          · rw [if_neg h2]; exact ih.iff j hj q h1
        · obtain rfl : q = (cst (uB f z n) k).2.length := by omega
          have e : ((cst (uB f z n) k).2 ++ [k])[(cst (uB f z n) k).2.length]'hq = k := by simp
          show uB f z n (((cst (uB f z n) k).2 ++ [k])[(cst (uB f z n) k).2.length]'hq) j = true ↔ (if uB f z n k j = true then (((cst (uB f z n) k).2.length : Nat) : Int) else (cst (uB f z n) k).1 j) = _
          rw [e]
          by_cases h2 : uB f z n k j = true
          · rw [if_pos h2]; simp [h2]
          · rw [if_neg h2]
            refine ⟨fun h3 => absurd h3 h2, fun h3 => ?_⟩
            rcases ih.rng j with h4 | h4 <;> omega
      · show (if uB f z n k j = true then (((cst (uB f z n) k).2.length : Nat) : Int) else (cst (uB f z n) k).1 j) = -1 ∨ 0 ≤ (if uB f z n k j = true then (((cst (uB f z n) k).2.length : Nat) : Int) else (cst (uB f z n) k).1 j) ∧ (if uB f z n k j = true then (((cst (uB f z n) k).2.length : Nat) : Int) else (cst (uB f z n) k).1 j) < (((cst (uB f z n) k).2 ++ [k]).length : Nat)
        rw [List.length_append]
        by_cases h2 : uB f z n k j = true
        · rw [if_pos h2]; simp; omega
        · rw [if_neg h2]
          have := ih.rng j
          simp; omega
      · show 0 ≤ (if uB f z n k j = true then (((cst (uB f z n) k).2.length : Nat) : Int) else (cst (uB f z n) k).1 j)
        by_cases h2 : uB f z n k j = true
        · rw [if_pos h2]; omega
        · rw [if_neg h2]
          rcases Nat.lt_or_ge j k with h1 | h1
          · exact ih.all j h1
          · exact absurd (by rw [show j = k by omega]; exact uB_refl hp hz (by omega)) h2
      · show ((cst (uB f z n) k).2 ++ [k]).length ≤ k + 1
        have := ih.len
        simp; omega
/-- The first width: the cycle of p, and that of z p unless it is the same. -/
def wid0 (f z : Nat → Nat) (n p : Nat) : Nat := perO f n p + (if (cyL f p (perO f n p)).contains (z p) then 0 else perO f n (z p))
/-- How many points below m the test holds for. -/
def cntB (t : Nat → Bool) : Nat → Nat
  | 0 => 0
  | m + 1 => cntB t m + (if t m = true then 1 else 0)
theorem cntB_filter (t : Nat → Bool) : ∀ m, cntB t m = ((List.range m).filter t).length
  | 0 => rfl
  | m + 1 => by
    rw [List.range_succ, List.filter_append, List.length_append, ← cntB_filter t m]
    show cntB t m + _ = _
    by_cases h : t m = true <;> simp [h]
theorem cntB_congr {t u : Nat → Bool} : ∀ m, (∀ j, j < m → t j = u j) → cntB t m = cntB u m
  | 0, _ => rfl
  | m + 1, h => by show cntB t m + _ = cntB u m + _; rw [cntB_congr m fun j hj => h j (by omega), h m (by omega)]
theorem cnt_list {t : Nat → Bool} {n : Nat} {l : List Nat} (hd : l.Nodup) (h : ∀ j, j ∈ l ↔ j < n ∧ t j = true) : cntB t n = l.length := by
  rw [cntB_filter]
  have h1 := List.Nodup.length_le_of_subset (l₁ := (List.range n).filter t) (l₂ := l) (List.Pairwise.filter _ List.nodup_range) fun x hx => by
    rw [List.mem_filter, List.mem_range] at hx
    exact (h x).2 hx
  have h2 := List.Nodup.length_le_of_subset (l₂ := (List.range n).filter t) hd fun x hx => by
    rw [List.mem_filter, List.mem_range]
    exact (h x).1 hx
  omega
theorem cnt_u {f z : Nat → Nat} {n p : Nat} (hp : Prm f n) (hz : Inv2 f z n) (hi : p < n) : cntB (uB f z n p) n = wid0 f z n p := by
  have h1 := (perO_spec hp hi).1
  have h2 := (perO_spec hp (hz.lt p hi)).1
  have l1 : (cyL f p (perO f n p)).length = perO f n p := by simp [cyL]
  have l2 : (cyL f (z p) (perO f n (z p))).length = perO f n (z p) := by simp [cyL]
  unfold wid0
  by_cases hc : (cyL f p (perO f n p)).contains (z p) = true
  · rw [if_pos hc, Nat.add_zero, ← l1]
    refine cnt_list (cyL_nodup hp hi h1) fun j => ?_
    rw [cyL_mem h1, uB_iff hp hz hi]
    refine ⟨fun h => ⟨onC_bd hp hi h, .inl h⟩, fun ⟨_, h⟩ => ?_⟩
    rcases h with h | h
    · exact h
    · exact onC_trans ((cy_on hp hi).1 hc) h
  · rw [if_neg hc, show perO f n p + perO f n (z p) = (cyL f p (perO f n p) ++ cyL f (z p) (perO f n (z p))).length by rw [List.length_append, l1, l2]]
    refine cnt_list ?_ fun j => ?_
    · rw [List.nodup_append]
      refine ⟨cyL_nodup hp hi h1, cyL_nodup hp (hz.lt p hi) h2, fun a ha b hb e => ?_⟩
      subst e
      exact hc ((cy_on hp hi).2 (onC_trans ((cyL_mem h1).1 ha) (onC_symm hp (hz.lt p hi) ((cyL_mem h2).1 hb))))
    · rw [List.mem_append, cyL_mem h1, cyL_mem h2, uB_iff hp hz hi]
      refine ⟨fun h => ⟨?_, h⟩, fun h => h.2⟩
      rcases h with h | h
      · exact onC_bd hp hi h
      · exact onC_bd hp (hz.lt p hi) h
/-- S twice commutes with T, by the relations of SL2(Z). -/
theorem rel_inv {g f : Nat → Nat} {n : Nat} (hg : Prm g n) (hf : Prm f n) (h : ∀ i, i < n → g (g (g (g i))) = i ∧ f (g (f (g (f (g i))))) = g (g i)) : Inv2 f (fun i => g (g i)) n where
  lt i hi := hg.lt _ (hg.lt _ hi)
  inv i hi := (h i hi).1
  com i hi := by
    -- i is g of something
    have h1 := (h i hi).1
    have hj : g (g (g i)) < n := hg.lt _ (hg.lt _ (hg.lt _ hi))
    obtain ⟨j, hjn, e⟩ : ∃ j, j < n ∧ g j = i := ⟨_, hj, h1⟩
    have a := (h j hjn).2
    have b := (h (f (g j)) (hf.lt _ (hg.lt _ hjn))).2
    -- u^3 (u j) = u (u^3 j)
    rw [a] at b
    rw [e] at a b
    exact b
/-- All points are fixed by S twice, or none is. -/
theorem all_fix {g f : Nat → Nat} {n k : Nat} (hg : Prm g n) (hf : Prm f n) (h0 : 0 < n) (hz : Inv2 f (fun i => g (g i)) n) (hfull : (bst g f 0 k).length = n) {p : Nat} (hp : p < n) : g (g p) = p ↔ g (g 0) = 0 := by
  have hm := mem_full (bst_nodup g f 0 k) hfull (bst_lt hg hf h0 k) hp
  refine bst_all hg hf h0 (Q := fun x => g (g x) = x ↔ g (g 0) = 0) Iff.rfl (fun x hx hq => ?_) (fun x hx hq => ?_) k p hm
  · rw [← hq]
    exact ⟨fun e => hg.inj _ _ (hg.lt _ (hg.lt _ hx)) hx e, fun e => by rw [e]⟩
  · rw [← hq]
    have hc : f (g (g x)) = g (g (f x)) := hz.com x hx
    rw [← hc]
    exact ⟨fun e => hf.inj _ _ (hg.lt _ (hg.lt _ hx)) hx e, fun e => by rw [e]⟩
/-- The two ways to say that a cusp is regular. -/
theorem regular_eq {g f : Nat → Nat} {n p : Nat} (hf : Prm f n) (hz : Inv2 f (fun i => g (g i)) n) (hp : p < n) (hne : g (g p) ≠ p) :
    (perO f n p = wid0 f (fun i => g (g i)) n p / 2) ↔ wid0 f (fun i => g (g i)) n p / 2 % perO f n p = 0 := by
  have h1 := (perO_spec hf hp).1
  have h2 := Inv2.per hf hz hp h1
  have h3 := (perO_spec hf (hz.lt p hp)).1
  have e : perO f n (g (g p)) = perO f n p := h3.uniq h2
  have c1 := h1.pos
  unfold wid0
  by_cases hc : (cyL f p (perO f n p)).contains (g (g p)) = true
  · rw [if_pos hc, Nat.add_zero]
    have c2 : 2 ≤ perO f n p := by
      rcases Nat.lt_or_ge (perO f n p) 2 with h | h
      · have e1 : perO f n p = 1 := by omega
        rw [e1] at hc
        simp [cyL, List.range_succ, itr] at hc
        exact absurd hc hne
      · exact h
    rw [Nat.mod_eq_of_lt (by omega)]
    omega
  · rw [if_neg hc, e, show (perO f n p + perO f n p) / 2 = perO f n p by omega, Nat.mod_self]
    exact ⟨fun _ => rfl, fun _ => rfl⟩
theorem wid0_fix {g f : Nat → Nat} {n p : Nat} (hf : Prm f n) (hp : p < n) (he : g (g p) = p) : wid0 f (fun i => g (g i)) n p = perO f n p := by
  unfold wid0
  rw [if_pos (by show (cyL f p (perO f n p)).contains (g (g p)) = true; rw [he]; exact (cy_on hf hp).2 (onC_refl f p)), Nat.add_zero]
/-- The width of a class. -/
def widM (minus : Bool) (f z : Nat → Nat) (n p : Nat) : Nat := if minus then wid0 f z n p else wid0 f z n p / 2
/-- The marks behind k steps along the cycle of i. -/
def mkC (f : Nat → Nat) (C : Nat → Int) (i m k : Nat) (j : Nat) : Int := if (cyL f i k).contains j = true then (m : Int) else C j
theorem mkC_zero (f : Nat → Nat) (C : Nat → Int) (i m : Nat) : mkC f C i m 0 = C := by funext j; simp [mkC, cyL]
theorem mkC_succ (f : Nat → Nat) (C : Nat → Int) (i m k j : Nat) : mkC f C i m (k + 1) j = if j = itr f k i then (m : Int) else mkC f C i m k j := by
  unfold mkC cyL
  rw [List.range_succ, List.map_append]
  by_cases e : j = itr f k i
  · subst e; simp
  · have : (List.map (fun k => itr f k i) (List.range k) ++ List.map (fun k => itr f k i) [k]).contains j = (List.map (fun k => itr f k i) (List.range k)).contains j := by
      rw [Bool.eq_iff_iff, List.contains_iff_mem, List.contains_iff_mem]; simp [e]
    rw [this, if_neg e]
theorem mkC_at {f : Nat → Nat} {n : Nat} {C : Nat → Int} {i m c : Nat} (hp : Prm f n) (hi : i < n) (h : IsPer f i c) {k : Nat} (hk : k < c) : mkC f C i m k (itr f k i) = C (itr f k i) := by
  unfold mkC
  rw [if_neg]
  intro hm
  rw [List.contains_iff_mem] at hm
  unfold cyL at hm
  obtain ⟨a, ha, e⟩ := List.mem_map.1 hm
  have ha' := List.mem_range.1 ha
  have e2 : i = itr f (k - a) i := by
    refine hp.itr_inj hi (hp.itr_lt hi _) a ?_
    rw [← itr_add, show k - a + a = k by omega]
    exact e
  exact h.least (k - a) (by omega) (by omega) e2.symm
theorem mkC_end {f : Nat → Nat} {C : Nat → Int} {i m c : Nat} (h : IsPer f i c) : mkC f C i m c (itr f c i) = (m : Int) := by
  unfold mkC
  rw [if_pos]
  rw [List.contains_iff_mem, h.back, cyL_mem h]
  exact onC_refl f i
section
variable {f z : Nat → Nat} {n i m : Nat} {C : Nat → Int}
theorem mk_one (hp : Prm f n) (hz : Inv2 f z n) (hi : i < n) (h : onC f i (z i)) (j : Nat) : mkC f C i m (perO f n i) j = if uB f z n i j = true then (m : Int) else C j := by
  unfold mkC
  have e : (cyL f i (perO f n i)).contains j = true ↔ uB f z n i j = true := by
    rw [cy_on hp hi, uB_iff hp hz hi]
    exact ⟨.inl, fun h' => h'.elim id fun h' => onC_trans h h'⟩
  by_cases h' : uB f z n i j = true
  · rw [if_pos h', if_pos (e.2 h')]
  · rw [if_neg h', if_neg fun h9 => h' (e.1 h9)]
theorem mk_two (hp : Prm f n) (hz : Inv2 f z n) (hi : i < n) (j : Nat) : mkC f (mkC f C i m (perO f n i)) (z i) m (perO f n (z i)) j = if uB f z n i j = true then (m : Int) else C j := by
  unfold mkC uB
  cases (cyL f i (perO f n i)).contains j <;> cases (cyL f (z i) (perO f n (z i))).contains j <;> simp
theorem neg_one (hp : Prm f n) (hz : Inv2 f z n) {s : (Nat → Int) × List Nat} {k : Nat} (hI : CI (uB f z n) n k s) (hi : i < n) (hC : ¬ 0 ≤ s.1 i) {j : Nat} (hj : j < n) (hu : uB f z n i j = true) : s.1 j < 0 := by
  rcases hI.rng j with h | ⟨h1, h2⟩
  · omega
  · obtain ⟨q, hq⟩ : ∃ q : Nat, s.1 j = (q : Int) := ⟨(s.1 j).toNat, by omega⟩
    have hql : q < s.2.length := by omega
    have h3 := (hI.iff j hj q hql).2 hq
    have h4 := uB_trans hp hz (hI.bd _ (List.getElem_mem hql)) h3 (uB_symm hp hz hi hu)
    have := (hI.iff i hi q hql).1 h4
    omega
end
end Go.Proofs.Ytmikhkolbkdnpaa
