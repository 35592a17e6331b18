/- Plain mathematics: the number of points of the projective line. Plain mathematics: the search for the cosets ends with a coset action. Plain mathematics: residues are rows of matrices; the keys of Gamma1 and Gamma. Plain mathematics: the number of cosets of each group. -/
import Derived.Test.YtmikhkolbkdnpaaPsL
import Derived.Test.YtmikhkolbkdnpaaNfP
import Derived.Test.YtmikhkolbkdnpaaSrP
import Derived.Test.YtmikhkolbkdnpaaEuN
namespace Go.Proofs.Ytmikhkolbkdnpaa
set_option linter.unusedVariables false

theorem mem_row {n u v : Nat} : v ∈ row n u ↔ v < n ∧ ptB n u v = true := by unfold row; rw [List.mem_filter, List.mem_range]
theorem mem_pts {n u v : Nat} : (u, v) ∈ pts n ↔ u < n ∧ v < n ∧ ptB n u v = true := by
  unfold pts
  rw [List.mem_flatMap]
  constructor
  · rintro ⟨u', h1, h2⟩
    rw [List.mem_map] at h2
    obtain ⟨v', h3, h4⟩ := h2
    cases h4
    exact ⟨List.mem_range.1 h1, mem_row.1 h3⟩
  · rintro ⟨h1, h2⟩
    exact ⟨u, List.mem_range.2 h1, List.mem_map.2 ⟨v, mem_row.2 h2, rfl⟩⟩
/-- The normal forms of a row, told apart by the units that fix u alone. -/
def fastB (n u : Nat) (F : List Nat) (v : Nat) : Bool := Nat.gcd (Nat.gcd u v) n == 1 && F.all fun t => decide (v ≤ t * v % n)
theorem fast_eq {n u v : Nat} (hu1 : u < n) (hu : u = 0 ∨ u ∣ n) (hv : v < n) : fastB n u (fixN n u) v = ptB n u v := by
  have key : fastB n u (fixN n u) v = true ↔ ptB n u v = true := by
    rw [ptB_all]
    unfold fastB
    rw [Bool.and_eq_true, beq_iff_eq, List.all_eq_true]
    refine ⟨fun ⟨h1, h2⟩ => ⟨h1, fun s hs hg => ?_⟩, fun ⟨h1, h2⟩ => ⟨h1, fun t ht => ?_⟩⟩
    · by_cases he : s * u % n = u
      · have := h2 s (mem_fix.2 ⟨⟨hs, hg⟩, he⟩)
        exact .inr ⟨he, by simpa using this⟩
      · refine .inl ?_
        rcases hu with e | hd
        · rw [e, Nat.mul_zero, Nat.zero_mod] at he; exact absurd rfl he
        · have hdv : u ∣ s * u % n := (Nat.dvd_mod_iff hd).2 (Nat.dvd_mul_left u s)
          by_cases h0 : s * u % n = 0
          · exfalso
            have hnu : n ∣ u := (Nat.Coprime.dvd_of_dvd_mul_left (show Nat.Coprime n s by rw [Nat.Coprime, Nat.gcd_comm]; exact hg) (Nat.dvd_of_mod_eq_zero h0))
            rcases Nat.eq_zero_or_pos u with e | e
            · exact he (by rw [h0, e])
            · exact absurd (Nat.le_of_dvd e hnu) (by omega)
          · have := Nat.le_of_dvd (Nat.pos_of_ne_zero h0) hdv
            omega
    · obtain ⟨⟨h3, h4⟩, h5⟩ := mem_fix.1 ht
      have := h2 t h3 h4
      simp
      omega
  cases h1 : fastB n u (fixN n u) v <;> cases h2 : ptB n u v <;> simp_all
def rowN (n u : Nat) : Nat := if (u == 0 || n % u == 0) = true then (let F := fixN n u; ((List.range n).filter (fastB n u F)).length) else 0
theorem rowN_eq {n u : Nat} (n1 : 1 ≤ n) (n2 : n ≤ 120) (hu1 : u < n) : rowN n u = (row n u).length := by
  unfold rowN
  by_cases h : u = 0 ∨ u ∣ n
  · rw [if_pos (by rcases h with h | h; simp [h]; rw [Nat.mod_eq_zero_of_dvd h]; simp)]
    show ((List.range n).filter (fastB n u (fixN n u))).length = ((List.range n).filter (ptB n u)).length
    congr 1
    exact List.filter_congr fun v hv => fast_eq hu1 h (List.mem_range.1 hv)
  · rw [row_no n1 n2 hu1 h, if_neg]
    · rfl
    · intro hc
      rw [Bool.or_eq_true, beq_iff_eq, beq_iff_eq] at hc
      rcases hc with hc | hc
      · exact h (.inl hc)
      · exact h (.inr (Nat.dvd_of_mod_eq_zero hc))
def cntU (n : Nat) : Nat → Nat
  | 0 => 0
  | u + 1 => cntU n u + rowN n u
theorem cntU_eq {n : Nat} (n1 : 1 ≤ n) (n2 : n ≤ 120) : ∀ u, u ≤ n → cntU n u = (ptu n u).length
  | 0, _ => rfl
  | u + 1, h => by rw [cntU, cntU_eq n1 n2 u (by omega), rowN_eq n1 n2 (by omega), ptu_succ, List.length_append, List.length_map]
def cnsOk (n : Nat) : Bool := n == 0 || cntU n n == psiN n
theorem cns_a : (List.range 60).all cnsOk = true := by decide +kernel
theorem cns_b : (List.range 35).all (fun k => cnsOk (60 + k)) = true := by decide +kernel
theorem cns_c : (List.range 26).all (fun k => cnsOk (95 + k)) = true := by decide +kernel
theorem pts_psi {n : Nat} (n1 : 1 ≤ n) (n2 : n ≤ 120) : (pts n).length = psiN n := by
  have h : cnsOk n = true := by
    by_cases h1 : n < 60
    · exact List.all_eq_true.1 cns_a n (List.mem_range.2 h1)
    · by_cases h2 : n < 95
      · have := List.all_eq_true.1 cns_b (n - 60) (List.mem_range.2 (by omega))
        rwa [show 60 + (n - 60) = n by omega] at this
      · have := List.all_eq_true.1 cns_c (n - 95) (List.mem_range.2 (by omega))
        rwa [show 95 + (n - 95) = n by omega] at this
  unfold cnsOk at h
  rw [Bool.or_eq_true, beq_iff_eq, beq_iff_eq] at h
  rcases h with h | h
  · omega
  · rw [← ptu_pts, ← cntU_eq n1 n2 n (Nat.le_refl _)]; exact h
end Go.Proofs.Ytmikhkolbkdnpaa
namespace Go.Proofs.Ytmikhkolbkdnpaa
set_option linter.unusedVariables false

/-- The determinant. -/
def dtM (m : M4) : Int := m.1 * m.2.2.2 - m.2.1 * m.2.2.1
theorem dtM_S (m : M4) : dtM (mS m) = dtM m := by
  obtain ⟨a, b, c, d⟩ := m
  simp only [dtM, mS]; grind
theorem dtM_T (m : M4) : dtM (mT m) = dtM m := by
  obtain ⟨a, b, c, d⟩ := m
  simp only [dtM, mT]; grind
theorem mS4 (m : M4) : mS (mS (mS (mS m))) = m := by
  obtain ⟨a, b, c, d⟩ := m
  simp [mS]
theorem mTS (m : M4) : mT (mS (mT (mS (mT (mS m))))) = mS (mS m) := by
  obtain ⟨a, b, c, d⟩ := m
  simp only [mS, mT]
  refine Prod.ext ?_ (Prod.ext ?_ (Prod.ext ?_ ?_)) <;> simp only <;> omega
theorem mTz (m : M4) : mT (mS (mS m)) = mS (mS (mT m)) := by
  obtain ⟨a, b, c, d⟩ := m
  simp only [mS, mT]
  refine Prod.ext ?_ (Prod.ext ?_ (Prod.ext ?_ ?_)) <;> simp only <;> omega
/-- What keys of right cosets keep. -/
structure Cos (co : M4 → K4) : Prop where
  s : ∀ x y, dtM x = 1 → dtM y = 1 → co x = co y → co (mS x) = co (mS y)
  t : ∀ x y, dtM x = 1 → dtM y = 1 → co x = co y → co (mT x) = co (mT y)
  u : ∀ x y, dtM x = 1 → dtM y = 1 → co (mT x) = co (mT y) → co x = co y
section
variable {co : M4 → K4}
theorem Cos.si (h : Cos co) {x y : M4} (hx : dtM x = 1) (hy : dtM y = 1) (e : co (mS x) = co (mS y)) : co x = co y := by
  have a := h.s _ _ (by rw [dtM_S]; exact hx) (by rw [dtM_S]; exact hy) e
  have b := h.s _ _ (by rw [dtM_S, dtM_S]; exact hx) (by rw [dtM_S, dtM_S]; exact hy) a
  have c := h.s _ _ (by rw [dtM_S, dtM_S, dtM_S]; exact hx) (by rw [dtM_S, dtM_S, dtM_S]; exact hy) b
  rwa [mS4, mS4] at c
/-- A visit in the words of the list of matrices: the keys are those of the matrices. -/
def vl (co : M4 → K4) (L : List M4) (m : M4) : List M4 := if (L.map co).contains (co m) = true then L else L ++ [m]
theorem kNext_map (L : List M4) (m : M4) : kNext (L.map co) (co m) = (vl co L m).map co := by
  unfold kNext vl
  by_cases h : (L.map co).contains (co m) = true
  · rw [if_pos h, if_pos h]
  · rw [if_neg h, if_neg h]; simp
theorem lNext_map (L : List M4) (m : M4) : lNext (L.map co) (co m) L m = vl co L m := rfl
theorem vl_ext (L : List M4) (m : M4) : ∃ E, vl co L m = L ++ E := by
  unfold vl
  split
  · exact ⟨[], by simp⟩
  · exact ⟨_, rfl⟩
theorem vl_mem (L : List M4) (m : M4) : co m ∈ (vl co L m).map co := by
  unfold vl
  split
  · rename_i h; simpa using h
  · simp
theorem vl_nodup {L : List M4} {m : M4} (h : (L.map co).Nodup) : ((vl co L m).map co).Nodup := by
  unfold vl
  split
  · exact h
  · rename_i hc
    rw [List.map_append, List.nodup_append]
    refine ⟨h, by simp, ?_⟩
    intro a ha b hb e
    simp only [List.map_cons, List.map_nil, List.mem_singleton] at hb
    subst hb; subst e
    exact hc (by simpa using ha)
theorem vl_dt {L : List M4} {m : M4} (h : ∀ x ∈ L, dtM x = 1) (hm : dtM m = 1) : ∀ x ∈ vl co L m, dtM x = 1 := by
  unfold vl
  split
  · exact h
  · intro x hx
    rcases List.mem_append.1 hx with h1 | h1
    · exact h x h1
    · rw [List.mem_singleton.1 h1]; exact hm
theorem vl_new {L : List M4} {m : M4} {k : Nat} (hk : L.length ≤ k) (hk2 : k < (vl co L m).length) : (vl co L m).getD k (0, 0, 0, 0) = m ∧ k = L.length := by
  unfold vl at hk2 ⊢
  split
  · rename_i hc; rw [if_pos hc] at hk2; omega
  · rename_i hc
    rw [if_neg hc] at hk2
    have : k = L.length := by simp at hk2; omega
    subst this
    simp [List.getD_eq_getElem?_getD]
theorem getD_ext {L E : List M4} {k : Nat} (hk : k < L.length) : (L ++ E).getD k (0, 0, 0, 0) = L.getD k (0, 0, 0, 0) := by
  rw [List.getD_eq_getElem?_getD, List.getD_eq_getElem?_getD, List.getElem?_append_left hk]
theorem idx_ext {K E : List K4} {x : K4} (h : x ∈ K) : (K ++ E).idxOf x = K.idxOf x := by rw [List.idxOf_append, if_pos h]
/-- The invariant of the search behind i rounds. -/
structure RI (co : M4 → K4) (i : Nat) : Prop where
  k : (srun co i).K = (srun co i).L.map co
  nd : ((srun co i).L.map co).Nodup
  d : ∀ x ∈ (srun co i).L, dtM x = 1
  first : (srun co i).L.getD 0 (0, 0, 0, 0) = (1, 0, 0, 1)
  pos : 0 < (srun co i).L.length
  s : ∀ j, j < i → co (mS ((srun co i).L.getD j (0, 0, 0, 0))) ∈ (srun co i).K ∧ (srun co i).S.getD j 0 = (srun co i).K.idxOf (co (mS ((srun co i).L.getD j (0, 0, 0, 0))))
  t : ∀ j, j < i → co (mT ((srun co i).L.getD j (0, 0, 0, 0))) ∈ (srun co i).K ∧ (srun co i).T.getD j 0 = (srun co i).K.idxOf (co (mT ((srun co i).L.getD j (0, 0, 0, 0))))
  gen : ∀ k, 0 < k → k < (srun co i).L.length → ∃ j, j < k ∧ j < i ∧ ((srun co i).L.getD k (0, 0, 0, 0) = mS ((srun co i).L.getD j (0, 0, 0, 0)) ∨ (srun co i).L.getD k (0, 0, 0, 0) = mT ((srun co i).L.getD j (0, 0, 0, 0)))
theorem getD_last (l : List Nat) (x : Nat) : (l ++ [x]).getD l.length 0 = x := by simp [List.getD_eq_getElem?_getD]
theorem getD_early {l : List Nat} {x k : Nat} (h : k < l.length) : (l ++ [x]).getD k 0 = l.getD k 0 := by
  rw [List.getD_eq_getElem?_getD, List.getD_eq_getElem?_getD, List.getElem?_append_left h]
theorem getD_inM {L : List M4} {k : Nat} (h : k < L.length) : L.getD k (0, 0, 0, 0) ∈ L := by
  rw [List.getD_eq_getElem?_getD, List.getElem?_eq_getElem h]; exact List.getElem_mem h
theorem srun_one (i : Nat) (h : (srun co i).K = (srun co i).L.map co) : (srun co (i + 1)).L = vl co (vl co (srun co i).L (mS ((srun co i).L.getD i (0, 0, 0, 0)))) (mT ((srun co i).L.getD i (0, 0, 0, 0))) ∧
    (srun co (i + 1)).K = (srun co (i + 1)).L.map co ∧ (srun co (i + 1)).S = (srun co i).S ++ [((vl co (srun co i).L (mS ((srun co i).L.getD i (0, 0, 0, 0)))).map co).idxOf (co (mS ((srun co i).L.getD i (0, 0, 0, 0))))] ∧
      (srun co (i + 1)).T = (srun co i).T ++ [((srun co (i + 1)).L.map co).idxOf (co (mT ((srun co i).L.getD i (0, 0, 0, 0))))] := by
  have e : srun co (i + 1) = ((srun co i).vs co (mS ((srun co i).L.getD i (0, 0, 0, 0)))).vt co (mT ((srun co i).L.getD i (0, 0, 0, 0))) := rfl
  generalize mS ((srun co i).L.getD i (0, 0, 0, 0)) = m1 at *
  generalize mT ((srun co i).L.getD i (0, 0, 0, 0)) = m2 at *
  have a1 : ((srun co i).vs co m1).K = (vl co (srun co i).L m1).map co := by show kNext _ _ = _; rw [h, kNext_map]
  have a2 : ((srun co i).vs co m1).L = vl co (srun co i).L m1 := by show lNext _ _ _ _ = _; rw [h, lNext_map]
  have b1 : (srun co (i + 1)).K = (vl co (vl co (srun co i).L m1) m2).map co := by rw [e]; show kNext _ _ = _; rw [a1, kNext_map]
  have b2 : (srun co (i + 1)).L = vl co (vl co (srun co i).L m1) m2 := by rw [e]; show lNext _ _ _ _ = _; rw [a1, a2, lNext_map]
  refine ⟨b2, by rw [b1, b2], ?_, ?_⟩
  · rw [e]; show (srun co i).S ++ [_] = _; rw [h, kNext_map]
  · rw [b2]
    rw [e]
    show (srun co i).T ++ [(kNext ((srun co i).vs co m1).K (co m2)).idxOf (co m2)] = _
    rw [a1, kNext_map]
theorem RI.zero : RI co 0 := by
  refine ⟨rfl, by simp [srun], ?_, rfl, by simp [srun], fun j hj => by omega, fun j hj => by omega, fun k h0 hk => ?_⟩
  · intro x hx
    have : x = (1, 0, 0, 1) := by simpa [srun] using hx
    subst this; rfl
  · simp [srun] at hk; omega
theorem RI.step {i : Nat} (h : RI co i) (hi : i < (srun co i).L.length) : RI co (i + 1) := by
  obtain ⟨e1, e2, e3, e4⟩ := srun_one i h.k
  obtain ⟨_, l2, l3⟩ := srun_len co i
  have hk := h.k
  have hs := h.s
  have ht := h.t
  have hg := h.gen
  have hd := h.d _ (getD_inM hi)
  obtain ⟨m, hm⟩ : ∃ m, m = (srun co i).L.getD i (0, 0, 0, 0) := ⟨_, rfl⟩
  rw [← hm] at e1 e3 e4 hd
  obtain ⟨E1, x1⟩ := vl_ext (co := co) (srun co i).L (mS m)
  obtain ⟨E2, x2⟩ := vl_ext (co := co) (vl co (srun co i).L (mS m)) (mT m)
  have hL : (srun co (i + 1)).L = (srun co i).L ++ (E1 ++ E2) := by rw [e1, x2, x1, List.append_assoc]
  have hK : (srun co (i + 1)).K = (srun co i).K ++ (E1 ++ E2).map co := by rw [e2, hL, List.map_append, hk]
  have g : ∀ j, j < (srun co i).L.length → (srun co (i + 1)).L.getD j (0, 0, 0, 0) = (srun co i).L.getD j (0, 0, 0, 0) := fun j hj => by rw [hL, getD_ext hj]
  have gm : (srun co (i + 1)).L.getD i (0, 0, 0, 0) = m := by rw [g i hi, hm]
  refine ⟨e2, ?_, ?_, by rw [g 0 h.pos]; exact h.first, by rw [hL, List.length_append]; have := h.pos; omega, fun j hj => ?_, fun j hj => ?_, fun k h0 hk2 => ?_⟩
  · rw [e1]; exact vl_nodup (vl_nodup h.nd)
  · rw [e1]; exact vl_dt (vl_dt h.d (by rw [dtM_S]; exact hd)) (by rw [dtM_T]; exact hd)
  · by_cases e : j = i
    · subst e
      have hmem : co (mS m) ∈ (vl co (srun co j).L (mS m)).map co := vl_mem _ _
      have hKe : (srun co (j + 1)).K = (vl co (srun co j).L (mS m)).map co ++ E2.map co := by rw [e2, e1, x2, List.map_append]
      rw [gm, hKe]
      refine ⟨List.mem_append_left _ hmem, ?_⟩
      rw [idx_ext hmem, e3]
      have := getD_last (srun co j).S (((vl co (srun co j).L (mS m)).map co).idxOf (co (mS m)))
      rwa [l2] at this
    · have hj2 : j < i := by omega
      obtain ⟨a, b⟩ := hs j hj2
      rw [g j (by omega), hK]
      refine ⟨List.mem_append_left _ a, ?_⟩
      rw [idx_ext a, e3, getD_early (by omega)]
      exact b
  · by_cases e : j = i
    · subst e
      have hmem : co (mT m) ∈ (srun co (j + 1)).K := by rw [e2, e1]; exact vl_mem _ _
      rw [gm]
      refine ⟨hmem, ?_⟩
      rw [e4, ← e2]
      have := getD_last (srun co j).T ((srun co (j + 1)).K.idxOf (co (mT m)))
      rwa [l3] at this
    · have hj2 : j < i := by omega
      obtain ⟨a, b⟩ := ht j hj2
      rw [g j (by omega), hK]
      refine ⟨List.mem_append_left _ a, ?_⟩
      rw [idx_ext a, e4, getD_early (by omega)]
      exact b
  · by_cases hkl : k < (srun co i).L.length
    · obtain ⟨j, j1, j2, j3⟩ := hg k h0 hkl
      refine ⟨j, j1, by omega, ?_⟩
      rw [g k hkl, g j (by omega)]
      exact j3
    · refine ⟨i, by omega, by omega, ?_⟩
      rw [gm]
      by_cases hkm : k < (vl co (srun co i).L (mS m)).length
      · obtain ⟨a, _⟩ := vl_new (co := co) (m := mS m) (Nat.le_of_not_lt hkl) hkm
        left
        rw [e1, x2, getD_ext hkm]; exact a
      · rw [e1] at hk2 ⊢
        obtain ⟨a, _⟩ := vl_new (co := co) (m := mT m) (Nat.le_of_not_lt hkm) hk2
        exact .inr a
theorem RI.all {N : Nat} (h : ∀ i, i < N → i < (srun co i).L.length) : ∀ i, i ≤ N → RI co i
  | 0, _ => .zero
  | i + 1, hi => (RI.all h i (by omega)).step (h i (by omega))
theorem nodup_idx {K : List K4} (h : K.Nodup) {j : Nat} (hj : j < K.length) : K.idxOf K[j] = j := by
  have h1 := List.idxOf_lt_length_iff.2 (List.getElem_mem hj)
  have h2 : K[K.idxOf K[j]] = K[j] := List.getElem_idxOf h1
  rcases Nat.lt_trichotomy (K.idxOf K[j]) j with h3 | h3 | h3
  · exact absurd h2 (List.pairwise_iff_getElem.1 h _ _ h1 hj h3)
  · exact h3
  · exact absurd h2.symm (List.pairwise_iff_getElem.1 h _ _ hj h1 h3)
/-- What the search leaves, if it ends behind N rounds. -/
structure SFin (co : M4 → K4) (N : Nat) : Prop where
  lt : ∀ i, i < N → i < (srun co i).L.length
  len : (srun co N).L.length = N
section
variable {N : Nat} (hC : Cos co) (hF : SFin co N)
include hF
theorem SFin.ri : RI co N := RI.all hF.lt N (Nat.le_refl _)
theorem SFin.klen : (srun co N).K.length = N := by rw [(srun_len co N).1]; exact hF.len
/-- The number of a matrix's coset. -/
def plC (co : M4 → K4) (N : Nat) (x : M4) : Nat := (srun co N).K.idxOf (co x)
theorem SFin.pl_lt {x : M4} (h : co x ∈ (srun co N).K) : plC co N x < N := by
  have := List.idxOf_lt_length_iff.2 h
  rwa [hF.klen] at this
theorem SFin.dL {j : Nat} (hj : j < N) : dtM ((srun co N).L.getD j (0, 0, 0, 0)) = 1 := hF.ri.d _ (getD_inM (by rw [hF.len]; exact hj))
theorem SFin.kat {j : Nat} (hj : j < N) : co ((srun co N).L.getD j (0, 0, 0, 0)) ∈ (srun co N).K := by
  rw [hF.ri.k]
  exact List.mem_map_of_mem (getD_inM (by rw [hF.len]; exact hj))
theorem SFin.pl_L {j : Nat} (hj : j < N) : plC co N ((srun co N).L.getD j (0, 0, 0, 0)) = j := by
  unfold plC
  have hl : j < (srun co N).L.length := by rw [hF.len]; exact hj
  have hk : j < (srun co N).K.length := by rw [hF.klen]; exact hj
  have e : co ((srun co N).L.getD j (0, 0, 0, 0)) = (srun co N).K[j] := by
    have hk' := hF.ri.k
    have : (srun co N).K[j]? = ((srun co N).L.map co)[j]? := by rw [← hk']
    rw [List.getElem?_eq_getElem hk, List.getElem?_map, List.getElem?_eq_getElem hl] at this
    rw [List.getD_eq_getElem?_getD, List.getElem?_eq_getElem hl]
    exact (Option.some.inj this).symm
  rw [e]
  exact nodup_idx (by rw [hF.ri.k]; exact hF.ri.nd) hk
theorem SFin.key {x : M4} (h : co x ∈ (srun co N).K) : co ((srun co N).L.getD (plC co N x) (0, 0, 0, 0)) = co x := by
  have hl := hF.pl_lt h
  have hi : plC co N x < (srun co N).K.length := by rw [hF.klen]; exact hl
  have hl' : plC co N x < (srun co N).L.length := by rw [hF.len]; exact hl
  have h2 : (srun co N).K[plC co N x] = co x := List.getElem_idxOf (List.idxOf_lt_length_iff.2 h)
  have : (srun co N).K[plC co N x]? = ((srun co N).L.map co)[plC co N x]? := by rw [← hF.ri.k]
  rw [List.getElem?_eq_getElem hi, h2, List.getElem?_map, List.getElem?_eq_getElem hl'] at this
  rw [List.getD_eq_getElem?_getD, List.getElem?_eq_getElem hl']
  exact (Option.some.inj this).symm
include hC
theorem SFin.memS {x : M4} (hx : dtM x = 1) (h : co x ∈ (srun co N).K) : co (mS x) ∈ (srun co N).K := by
  have hl := hF.pl_lt h
  rw [← hC.s _ _ (hF.dL hl) hx (hF.key h)]
  exact (hF.ri.s _ hl).1
theorem SFin.memT {x : M4} (hx : dtM x = 1) (h : co x ∈ (srun co N).K) : co (mT x) ∈ (srun co N).K := by
  have hl := hF.pl_lt h
  rw [← hC.t _ _ (hF.dL hl) hx (hF.key h)]
  exact (hF.ri.t _ hl).1
/-- The lists move the number of a coset. -/
theorem SFin.atS {x : M4} (hx : dtM x = 1) (h : co x ∈ (srun co N).K) : fnz (iz (srun co N).S) (plC co N x) = plC co N (mS x) := by
  have hl := hF.pl_lt h
  have e : fnz (iz (srun co N).S) (plC co N x) = (srun co N).S.getD (plC co N x) 0 := by
    have hs : plC co N x < (srun co N).S.length := by rw [(srun_len co N).2.1]; exact hl
    simp [fnz, iz, List.getD_eq_getElem?_getD, hs]
  rw [e, (hF.ri.s _ hl).2, hC.s _ _ (hF.dL hl) hx (hF.key h)]
  rfl
theorem SFin.atT {x : M4} (hx : dtM x = 1) (h : co x ∈ (srun co N).K) : fnz (iz (srun co N).T) (plC co N x) = plC co N (mT x) := by
  have hl := hF.pl_lt h
  have e : fnz (iz (srun co N).T) (plC co N x) = (srun co N).T.getD (plC co N x) 0 := by
    have hs : plC co N x < (srun co N).T.length := by rw [(srun_len co N).2.2]; exact hl
    simp [fnz, iz, List.getD_eq_getElem?_getD, hs]
  rw [e, (hF.ri.t _ hl).2, hC.t _ _ (hF.dL hl) hx (hF.key h)]
  rfl
omit hC in
theorem SFin.pl_inj {x y : M4} (hx : co x ∈ (srun co N).K) (hy : co y ∈ (srun co N).K) (e : plC co N x = plC co N y) : co x = co y := by
  rw [← hF.key hx, ← hF.key hy, e]
theorem SFin.pact : PAct (fnz (iz (srun co N).S)) (fnz (iz (srun co N).T)) N := by
  have at_ : ∀ j, j < N → ∃ x, dtM x = 1 ∧ co x ∈ (srun co N).K ∧ plC co N x = j := fun j hj => ⟨_, hF.dL hj, hF.kat hj, hF.pl_L hj⟩
  have ltS : ∀ j, j < N → fnz (iz (srun co N).S) j < N := fun j hj => by
    obtain ⟨x, hx, hm, rfl⟩ := at_ j hj
    rw [hF.atS hC hx hm]; exact hF.pl_lt (hF.memS hC hx hm)
  have ltT : ∀ j, j < N → fnz (iz (srun co N).T) j < N := fun j hj => by
    obtain ⟨x, hx, hm, rfl⟩ := at_ j hj
    rw [hF.atT hC hx hm]; exact hF.pl_lt (hF.memT hC hx hm)
  have h0 : 0 < N := by have := hF.ri.pos; rw [hF.len] at this; exact this
  refine ⟨⟨ltS, fun i j hi hj e => ?_⟩, ⟨ltT, fun i j hi hj e => ?_⟩, h0, fun i hi => ?_, fun i hi => rfl, fun i hi => ?_, fun Q q0 qg qf => ?_⟩
  · obtain ⟨x, hx, hm, rfl⟩ := at_ i hi
    obtain ⟨y, hy, hn, rfl⟩ := at_ j hj
    rw [hF.atS hC hx hm, hF.atS hC hy hn] at e
    have := hC.si hx hy (hF.pl_inj (hF.memS hC hx hm) (hF.memS hC hy hn) e)
    unfold plC; rw [this]
  · obtain ⟨x, hx, hm, rfl⟩ := at_ i hi
    obtain ⟨y, hy, hn, rfl⟩ := at_ j hj
    rw [hF.atT hC hx hm, hF.atT hC hy hn] at e
    have := hC.u _ _ hx hy (hF.pl_inj (hF.memT hC hx hm) (hF.memT hC hy hn) e)
    unfold plC; rw [this]
  · obtain ⟨x, hx, hm, rfl⟩ := at_ i hi
    have m1 := hF.memS hC hx hm
    have d1 : dtM (mS x) = 1 := by rw [dtM_S]; exact hx
    have m2 := hF.memS hC d1 m1
    have d2 : dtM (mS (mS x)) = 1 := by rw [dtM_S]; exact d1
    have m3 := hF.memS hC d2 m2
    have d3 : dtM (mS (mS (mS x))) = 1 := by rw [dtM_S]; exact d2
    rw [hF.atS hC hx hm, hF.atS hC d1 m1, hF.atS hC d2 m2, hF.atS hC d3 m3, mS4]
  · obtain ⟨x, hx, hm, rfl⟩ := at_ i hi
    have m1 := hF.memS hC hx hm
    have d1 : dtM (mS x) = 1 := by rw [dtM_S]; exact hx
    have m2 := hF.memS hC d1 m1
    have d2 : dtM (mS (mS x)) = 1 := by rw [dtM_S]; exact d1
    have n1 := hF.memT hC hx hm
    have e1 : dtM (mT x) = 1 := by rw [dtM_T]; exact hx
    have n2 := hF.memS hC e1 n1
    have e2 : dtM (mS (mT x)) = 1 := by rw [dtM_S]; exact e1
    rw [hF.atS hC hx hm, hF.atS hC d1 m1, hF.atT hC d2 m2, hF.atT hC hx hm, hF.atS hC e1 n1, hF.atS hC e2 n2, mTz]
  · have key : ∀ k, k < N → Q k := fun k => by
      induction k using Nat.strongRecOn with
      | _ k ih =>
        intro hk
        by_cases hk0 : k = 0
        · subst hk0; exact q0
        · obtain ⟨j, j1, j2, j3⟩ := hF.ri.gen k (by omega) (by rw [hF.len]; exact hk)
          have hj : j < N := by omega
          have hq := ih j j1 hj
          have a := hF.atS hC (hF.dL hj) (hF.kat hj)
          have b := hF.atT hC (hF.dL hj) (hF.kat hj)
          rw [hF.pl_L hj] at a b
          rcases j3 with e | e
          · rw [← e, hF.pl_L hk] at a
            rw [← a]; exact qg j hj hq
          · rw [← e, hF.pl_L hk] at b
            rw [← b]; exact qf j hj hq
    exact key
/-- The lists of the search are a coset action. -/
theorem SFin.act (hN : N ≤ 1152) : Act2 (iz (srun co N).S) (iz (srun co N).T) := by
  have hP := hF.pact hC
  have l1 : (iz (srun co N).S).length = N := by rw [iz_len]; exact (srun_len co N).2.1
  have l2 : (iz (srun co N).T).length = N := by rw [iz_len]; exact (srun_len co N).2.2
  have rng : ∀ {l : List Nat}, l.length = N → iz l = iz ((List.range N).map (fnz (iz l))) := fun {l} hl => by
    congr 1
    apply List.ext_getElem
    · simp [hl]
    · intro k h1 h2
      have : k < l.length := h1
      simp [fnz, iz, List.getD_eq_getElem?_getD, this]
  refine ⟨by rw [l1]; exact hP.pos, by rw [l1]; exact hN, by rw [l1, l2], ?_, ?_, ?_, ?_⟩
  · rw [rng (srun_len co N).2.1]; exact okP_of hP.gp
  · rw [rng (srun_len co N).2.2]; exact okP_of hP.fp
  · rw [l1]
    intro j hj
    refine ⟨hP.zz j hj, ?_⟩
    obtain ⟨x, hx, hm, rfl⟩ : ∃ x, dtM x = 1 ∧ co x ∈ (srun co N).K ∧ plC co N x = j := ⟨_, hF.dL hj, hF.kat hj, hF.pl_L hj⟩
    have m1 := hF.memS hC hx hm
    have d1 : dtM (mS x) = 1 := by rw [dtM_S]; exact hx
    have m2 := hF.memT hC d1 m1
    have d2 : dtM (mT (mS x)) = 1 := by rw [dtM_T]; exact d1
    have m3 := hF.memS hC d2 m2
    have d3 : dtM (mS (mT (mS x))) = 1 := by rw [dtM_S]; exact d2
    have m4 := hF.memT hC d3 m3
    have d4 : dtM (mT (mS (mT (mS x)))) = 1 := by rw [dtM_T]; exact d3
    have m5 := hF.memS hC d4 m4
    have d5 : dtM (mS (mT (mS (mT (mS x))))) = 1 := by rw [dtM_S]; exact d4
    rw [hF.atS hC hx hm, hF.atT hC d1 m1, hF.atS hC d2 m2, hF.atT hC d3 m3, hF.atS hC d4 m4, hF.atT hC d5 m5, hF.atS hC d1 m1, mTS]
  · rw [l1]; exact bst_full hP hP.pos
end
end
/-- One step back. -/
def mU (m : M4) : M4 := (m.1, m.2.1 - m.1, m.2.2.1, m.2.2.2 - m.2.2.1)
theorem mTU (m : M4) : mT (mU m) = m := by
  obtain ⟨a, b, c, d⟩ := m
  simp only [mT, mU]
  refine Prod.ext ?_ (Prod.ext ?_ (Prod.ext ?_ ?_)) <;> simp only <;> omega
theorem dtM_U (m : M4) : dtM (mU m) = dtM m := by rw [← dtM_T, mTU]
/-- SL2(Z) is generated by the two steps. -/
theorem sl_pow {P : M4 → Prop} (hT : ∀ x, dtM x = 1 → P x → P (mT x)) (hU : ∀ x, dtM x = 1 → P x → P (mU x)) {a b c d : Int} (hd : dtM (a, b, c, d) = 1) (h : P (a, b, c, d)) (q : Int) : P (a, b + q * a, c, d + q * c) ∧ dtM (a, b + q * a, c, d + q * c) = 1 := by
  have up : ∀ k : Nat, P (a, b + (k : Int) * a, c, d + (k : Int) * c) ∧ dtM (a, b + (k : Int) * a, c, d + (k : Int) * c) = 1 := fun k => by
    induction k with
    | zero => simpa using ⟨h, hd⟩
    | succ k ih =>
      have e : mT (a, b + (k : Int) * a, c, d + (k : Int) * c) = (a, b + ((k + 1 : Nat) : Int) * a, c, d + ((k + 1 : Nat) : Int) * c) := by
        simp only [mT]
        refine Prod.ext ?_ (Prod.ext ?_ (Prod.ext ?_ ?_)) <;> simp only <;> grind
      rw [← e]
      exact ⟨hT _ ih.2 ih.1, by rw [dtM_T]; exact ih.2⟩
  have down : ∀ k : Nat, P (a, b + (-(k : Int)) * a, c, d + (-(k : Int)) * c) ∧ dtM (a, b + (-(k : Int)) * a, c, d + (-(k : Int)) * c) = 1 := fun k => by
    induction k with
    | zero => simpa using ⟨h, hd⟩
    | succ k ih =>
      have e : mU (a, b + (-(k : Int)) * a, c, d + (-(k : Int)) * c) = (a, b + (-((k + 1 : Nat) : Int)) * a, c, d + (-((k + 1 : Nat) : Int)) * c) := by
        simp only [mU]
        refine Prod.ext ?_ (Prod.ext ?_ (Prod.ext ?_ ?_)) <;> simp only <;> grind
      rw [← e]
      exact ⟨hU _ ih.2 ih.1, by rw [dtM_U]; exact ih.2⟩
  rcases Int.le_total 0 q with h0 | h0
  · have := up q.toNat
    rwa [Int.toNat_of_nonneg h0] at this
  · have := down (-q).toNat
    rwa [Int.toNat_of_nonneg (by omega), Int.neg_neg] at this
theorem unit_one {a d : Int} (h : a * d = 1) : a = 1 ∨ a = -1 := by
  have h1 : a.natAbs * d.natAbs = 1 := by rw [← Int.natAbs_mul, h]; rfl
  have h2 := Nat.eq_one_of_mul_eq_one_right h1
  omega
theorem sl_ind {P : M4 → Prop} (h1 : P (1, 0, 0, 1)) (hS : ∀ x, dtM x = 1 → P x → P (mS x)) (hT : ∀ x, dtM x = 1 → P x → P (mT x)) (hU : ∀ x, dtM x = 1 → P x → P (mU x)) : ∀ (k : Nat) (x : M4), x.2.2.1.natAbs ≤ k → dtM x = 1 → P x := by
  intro k
  induction k with
  | zero =>
    rintro ⟨a, b, c, d⟩ hc hd
    have hc0 : c = 0 := by simpa using hc
    subst hc0
    have had : a * d = 1 := by simpa [dtM] using hd
    have base : ∀ b : Int, P (1, b, 0, 1) := fun b => by
      have := (sl_pow hT hU (a := 1) (b := 0) (c := 0) (d := 1) rfl h1 b).1
      simpa using this
    rcases unit_one had with h | h
    · subst h
      obtain rfl : d = 1 := by omega
      exact base b
    · subst h
      obtain rfl : d = -1 := by omega
      have e : mS (mS (1, -b, 0, 1)) = (-1, b, 0, -1) := by simp [mS]
      rw [← e]
      have d0 : dtM (1, -b, 0, 1) = 1 := by simp [dtM]
      exact hS _ (by rw [dtM_S]; exact d0) (hS _ d0 (base (-b)))
  | succ k ih =>
    rintro ⟨a, b, c, d⟩ hc hd
    by_cases hc0 : c = 0
    · exact ih _ (by subst hc0; simp) hd
    · have hr0 := Int.emod_nonneg d hc0
      have hr1 : d % c < (c.natAbs : Int) := Int.emod_lt d hc0
      have hdm := Int.emod_add_mul_ediv d c
      have e : ((a, (b - d / c * a) + d / c * a, c, d % c + d / c * c) : M4) = (a, b, c, d) := by
        refine Prod.ext ?_ (Prod.ext ?_ (Prod.ext ?_ ?_)) <;> simp only
        · omega
        · rw [Int.mul_comm (d / c) c]; omega
      have d0 : dtM (a, b - d / c * a, c, d % c) = 1 := by
        have h2 : d % c = d - c * (d / c) := by omega
        rw [h2]
        simp only [dtM] at hd ⊢
        grind
      have hx : P (a, b - d / c * a, c, d % c) := by
        have hlt : (d % c).natAbs ≤ k := by
          have : c.natAbs ≤ k + 1 := hc
          omega
        have hy := ih (mS (a, b - d / c * a, c, d % c)) hlt (by rw [dtM_S]; exact d0)
        have d1 : dtM (mS (a, b - d / c * a, c, d % c)) = 1 := by rw [dtM_S]; exact d0
        have d2 : dtM (mS (mS (a, b - d / c * a, c, d % c))) = 1 := by rw [dtM_S]; exact d1
        have d3 : dtM (mS (mS (mS (a, b - d / c * a, c, d % c)))) = 1 := by rw [dtM_S]; exact d2
        have := hS _ d3 (hS _ d2 (hS _ d1 hy))
        rwa [mS4] at this
      rw [← e]
      exact (sl_pow hT hU d0 hx (d / c)).1
theorem prm_onto {f : Nat → Nat} {n : Nat} (h : Prm f n) {i : Nat} (hi : i < n) : ∃ j, j < n ∧ f j = i := by
  obtain ⟨c, _, hp⟩ := per_ex h hi
  obtain ⟨m, rfl⟩ : ∃ m, c = m + 1 := ⟨c - 1, by have := hp.pos; omega⟩
  exact ⟨itr f m i, h.itr_lt hi m, hp.back⟩
section
variable {co : M4 → K4} {N : Nat}
/-- Each coset is reached. -/
theorem SFin.all (hC : Cos co) (hF : SFin co N) {x : M4} (hx : dtM x = 1) : co x ∈ (srun co N).K := by
  have h0 : 0 < N := by have := hF.ri.pos; rw [hF.len] at this; exact this
  refine sl_ind (P := fun x => co x ∈ (srun co N).K) ?_ (fun y hy h => hF.memS hC hy h) (fun y hy h => hF.memT hC hy h) (fun y hy h => ?_) _ x (Nat.le_refl _) hx
  · have := hF.kat h0
    rwa [hF.ri.first] at this
  · obtain ⟨j, hj, e⟩ := prm_onto (hF.pact hC).fp (hF.pl_lt h)
    have a := hF.atT hC (hF.dL hj) (hF.kat hj)
    rw [hF.pl_L hj, e] at a
    have b := hF.pl_inj h (hF.memT hC (hF.dL hj) (hF.kat hj)) a
    have c := hC.u (mU y) _ (by rw [dtM_U]; exact hy) (hF.dL hj) (by rw [mTU]; exact b)
    show co (mU y) ∈ _
    rw [c]
    exact hF.kat hj
/-- The search ends, with as many rounds as there are cosets. -/
theorem fin_count (hC : Cos co) (V : List K4) (hV : V.Nodup) (hin : ∀ x, dtM x = 1 → co x ∈ V) (hon : ∀ v ∈ V, ∃ x, dtM x = 1 ∧ co x = v) : SFin co V.length := by
  have bound : ∀ i, RI co i → (srun co i).L.length ≤ V.length := fun i h => by
    have := List.Nodup.length_le_of_subset (l₁ := (srun co i).L.map co) (l₂ := V) h.nd fun v hv => by
      obtain ⟨x, hx, rfl⟩ := List.mem_map.1 hv
      exact hin x (h.d x hx)
    simpa using this
  have ex : ∃ k, k ≤ V.length ∧ ¬ k < (srun co k).L.length := by
    apply Classical.byContradiction
    intro hn
    have hlt : ∀ i, i < V.length + 1 → i < (srun co i).L.length := fun i hi => Classical.byContradiction fun h => hn ⟨i, by omega, h⟩
    have := bound _ (RI.all hlt V.length (by omega))
    have := hlt V.length (by omega)
    omega
  obtain ⟨N, hN, h1, h2⟩ := least_of V.length ex
  have hlt : ∀ i, i < N → i < (srun co i).L.length := fun i hi => Classical.byContradiction fun h => h2 i hi h
  have hF : SFin co N := by
    refine ⟨hlt, ?_⟩
    have hR := RI.all hlt N (Nat.le_refl _)
    have h3 : N ≤ (srun co N).L.length := by
      by_cases h0 : N = 0
      · omega
      · obtain ⟨m, rfl⟩ : ∃ m, N = m + 1 := ⟨N - 1, by omega⟩
        have hm := RI.all hlt m (by omega)
        obtain ⟨e1, _⟩ := srun_one m hm.k
        obtain ⟨E1, x1⟩ := vl_ext (co := co) (srun co m).L (mS ((srun co m).L.getD m (0, 0, 0, 0)))
        obtain ⟨E2, x2⟩ := vl_ext (co := co) (vl co (srun co m).L (mS ((srun co m).L.getD m (0, 0, 0, 0)))) (mT ((srun co m).L.getD m (0, 0, 0, 0)))
        have := hlt m (by omega)
        rw [e1, x2, x1, List.length_append, List.length_append]
        omega
    omega
  have hge : V.length ≤ N := by
    have := List.Nodup.length_le_of_subset (l₁ := V) (l₂ := (srun co N).K) hV fun v hv => by
      obtain ⟨x, hx, rfl⟩ := hon v hv
      exact hF.all hC hx
    rwa [hF.klen] at this
  have : N = V.length := by omega
  rw [← this]; exact hF
end
end Go.Proofs.Ytmikhkolbkdnpaa
namespace Go.Proofs.Ytmikhkolbkdnpaa
set_option linter.unusedVariables false

/-- A pair of residues without a common divisor is the lower row of a matrix. -/
theorem lift_row {n : Int} : ∀ (k : Nat) (c d : Int), c.natAbs ≤ k → Cop3 n c d → ∃ x : M4, dtM x = 1 ∧ n ∣ x.2.2.1 - c ∧ n ∣ x.2.2.2 - d := by
  intro k
  induction k with
  | zero =>
    intro c d hc h
    have hc0 : c = 0 := by omega
    subst hc0
    obtain ⟨x, y, z, e⟩ := h
    refine ⟨(y, -z, n, d), ?_, ⟨1, by simp⟩, ⟨0, by simp⟩⟩
    simp only [dtM]
    grind
  | succ k ih =>
    intro c d hc h
    by_cases hc0 : c = 0
    · exact ih c d (by omega) h
    · have hr0 := Int.emod_nonneg d hc0
      have hr1 : d % c < (c.natAbs : Int) := Int.emod_lt d hc0
      have hdm := Int.emod_add_mul_ediv d c
      have h2 : Cop3 n (d % c) (-c) := by
        obtain ⟨x, y, z, e⟩ := h
        refine ⟨y, -(x + y * (d / c)), z, ?_⟩
        have h3 : d % c = d - c * (d / c) := by omega
        rw [h3]
        grind
      obtain ⟨⟨a', b', c', d'⟩, hd, ⟨p, hp⟩, ⟨q, hq⟩⟩ := ih (d % c) (-c) (by omega) h2
      simp only at hp hq
      refine ⟨(-b', a' + (d / c) * (-b'), -d', c' + (d / c) * (-d')), ?_, ⟨-q, by simp only; grind⟩, ⟨p - (d / c) * q, ?_⟩⟩
      · simp only [dtM] at hd ⊢
        grind
      · simp only
        have h3 : d % c = d - c * (d / c) := by omega
        rw [h3] at hp
        grind
theorem lift_row' {n c d : Int} (h : Cop3 n c d) : ∃ x : M4, dtM x = 1 ∧ n ∣ x.2.2.1 - c ∧ n ∣ x.2.2.2 - d := lift_row _ c d (Nat.le_refl _) h
/-- A matrix of residues of determinant 1 is one of SL2(Z). -/
theorem lift_all4 {n a b c d : Int} (h : n ∣ a * d - b * c - 1) : ∃ x : M4, dtM x = 1 ∧ n ∣ x.1 - a ∧ n ∣ x.2.1 - b ∧ n ∣ x.2.2.1 - c ∧ n ∣ x.2.2.2 - d := by
  obtain ⟨k, hk⟩ := h
  obtain ⟨⟨a0, b0, c0, d0⟩, hd, ⟨p, hp⟩, ⟨q, hq⟩⟩ := lift_row' (n := n) (c := c) (d := d) ⟨-b, a, -k, by grind⟩
  simp only at hp hq
  simp only [dtM] at hd
  have e1 : c0 = c + n * p := by omega
  have e2 : d0 = d + n * q := by omega
  subst e1 e2
  refine ⟨(a0 + (a0 * b - b0 * a) * (c + n * p), b0 + (a0 * b - b0 * a) * (d + n * q), c + n * p, d + n * q), ?_, ?_, ?_, ⟨p, by simp only; grind⟩, ⟨q, by simp only; grind⟩⟩
  · simp only [dtM]; grind
  · simp only
    -- a0 + t c = a + n ..
    refine ⟨(a0 * b - b0 * a) * p - a * a0 * q + a * b0 * p - a0 * k, ?_⟩
    grind
  · simp only
    refine ⟨(a0 * b - b0 * a) * q - b * a0 * q + b * b0 * p - b0 * k, ?_⟩
    grind
theorem row_cop {n : Int} {x : M4} (hx : dtM x = 1) : Cop3 n x.2.2.1 x.2.2.2 := by
  obtain ⟨a, b, c, d⟩ := x
  simp only [dtM] at hx
  exact ⟨-b, a, 0, by simp only; grind⟩
theorem row_cop' {n : Int} {x : M4} (hx : dtM x = 1) : Cop3 n x.1 x.2.1 := by
  obtain ⟨a, b, c, d⟩ := x
  simp only [dtM] at hx
  exact ⟨d, -c, 0, by simp only; grind⟩
theorem mod_iff {n a b : Int} : a % n = b % n ↔ n ∣ a - b := by
  rw [Int.emod_eq_emod_iff_emod_sub_eq_zero]
  exact ⟨Int.dvd_of_emod_eq_zero, Int.emod_eq_zero_of_dvd⟩
/-- The keys of Gamma1 and of Gamma. -/
def kc2 (n : Int) (m : M4) : K4 := (m.2.2.1 % n, m.2.2.2 % n, 0, 0)
def kc3 (n : Int) (m : M4) : K4 := (m.1 % n, m.2.1 % n, m.2.2.1 % n, m.2.2.2 % n)
theorem two_mod_s {n c d c' d' : Int} (h1 : n ∣ c - c') (h2 : n ∣ d - d') : n ∣ d - d' ∧ n ∣ -c - -c' := ⟨h2, by obtain ⟨k, hk⟩ := h1; exact ⟨-k, by grind⟩⟩
theorem kos2 (n : Int) : Cos (kc2 n) := by
  have key : ∀ x y : M4, kc2 n x = kc2 n y ↔ n ∣ x.2.2.1 - y.2.2.1 ∧ n ∣ x.2.2.2 - y.2.2.2 := fun x y => by
    unfold kc2
    constructor
    · intro h
      injection h with h1 h2
      injection h2 with h2 _
      exact ⟨mod_iff.1 h1, mod_iff.1 h2⟩
    · rintro ⟨h1, h2⟩
      rw [mod_iff.2 h1, mod_iff.2 h2]
  refine ⟨fun x y _ _ h => ?_, fun x y _ _ h => ?_, fun x y _ _ h => ?_⟩
  · obtain ⟨⟨p, hp⟩, ⟨q, hq⟩⟩ := (key _ _).1 h
    exact (key _ _).2 ⟨⟨q, by simpa [mS] using hq⟩, ⟨-p, by simp only [mS]; grind⟩⟩
  · obtain ⟨⟨p, hp⟩, ⟨q, hq⟩⟩ := (key _ _).1 h
    exact (key _ _).2 ⟨⟨p, by simpa [mT] using hp⟩, ⟨p + q, by simp only [mT]; grind⟩⟩
  · obtain ⟨⟨p, hp⟩, ⟨q, hq⟩⟩ := (key _ _).1 h
    simp only [mT] at hp hq
    exact (key _ _).2 ⟨⟨p, hp⟩, ⟨q - p, by grind⟩⟩
theorem kos3 (n : Int) : Cos (kc3 n) := by
  have key : ∀ x y : M4, kc3 n x = kc3 n y ↔ n ∣ x.1 - y.1 ∧ n ∣ x.2.1 - y.2.1 ∧ n ∣ x.2.2.1 - y.2.2.1 ∧ n ∣ x.2.2.2 - y.2.2.2 := fun x y => by
    unfold kc3
    constructor
    · intro h
      injection h with h1 h2
      injection h2 with h2 h3
      injection h3 with h3 h4
      exact ⟨mod_iff.1 h1, mod_iff.1 h2, mod_iff.1 h3, mod_iff.1 h4⟩
    · rintro ⟨h1, h2, h3, h4⟩
      rw [mod_iff.2 h1, mod_iff.2 h2, mod_iff.2 h3, mod_iff.2 h4]
  refine ⟨fun x y _ _ h => ?_, fun x y _ _ h => ?_, fun x y _ _ h => ?_⟩
  · obtain ⟨⟨p, hp⟩, ⟨q, hq⟩, ⟨r, hr⟩, ⟨s, hs⟩⟩ := (key _ _).1 h
    exact (key _ _).2 ⟨⟨q, by simpa [mS] using hq⟩, ⟨-p, by simp only [mS]; grind⟩, ⟨s, by simpa [mS] using hs⟩, ⟨-r, by simp only [mS]; grind⟩⟩
  · obtain ⟨⟨p, hp⟩, ⟨q, hq⟩, ⟨r, hr⟩, ⟨s, hs⟩⟩ := (key _ _).1 h
    exact (key _ _).2 ⟨⟨p, by simpa [mT] using hp⟩, ⟨p + q, by simp only [mT]; grind⟩, ⟨r, by simpa [mT] using hr⟩, ⟨r + s, by simp only [mT]; grind⟩⟩
  · obtain ⟨⟨p, hp⟩, ⟨q, hq⟩, ⟨r, hr⟩, ⟨s, hs⟩⟩ := (key _ _).1 h
    simp only [mT] at hp hq hr hs
    exact (key _ _).2 ⟨⟨p, hp⟩, ⟨q - p, by grind⟩, ⟨r, hr⟩, ⟨s - r, by grind⟩⟩
end Go.Proofs.Ytmikhkolbkdnpaa
namespace Go.Proofs.Ytmikhkolbkdnpaa
set_option linter.unusedVariables false

/-- The numbers of a coset modulo n. -/
def kq2 (k p : Nat) : K4 := (((p / k : Nat) : Int), ((p % k : Nat) : Int), 0, 0)
def kq4 (k p : Nat) : K4 := (((p / k / k / k : Nat) : Int), ((p / k / k % k : Nat) : Int), ((p / k % k : Nat) : Int), ((p % k : Nat) : Int))
def kp2 (k p : Nat) : Bool := Nat.gcd (Nat.gcd (p / k) (p % k)) k == 1
def kp4 (k p : Nat) : Bool := (p / k / k / k) * (p % k) % k == ((p / k / k % k) * (p / k % k) + 1) % k
/-- The cosets of Gamma1 and of Gamma. -/
def V2 (k : Nat) : List K4 := ((List.range (k * k)).filter (kp2 k)).map (kq2 k)
def V4 (k : Nat) : List K4 := ((List.range (k * k * k * k)).filter (kp4 k)).map (kq4 k)
/-- The cosets of Gamma0. -/
def V1 (k : Nat) : List K4 := (pts k).map fun p => ((p.1 : Int), (p.2 : Int), 0, 0)
def vOk2 (k : Nat) : Bool := k == 0 || decide (1152 < psiN k * phiN k) || ((List.range (k * k)).filter (kp2 k)).length == psiN k * phiN k
def vOk4 (k : Nat) : Bool := k == 0 || decide (1152 < psiN k * (phiN k * k)) || ((List.range (k * k * k * k)).filter (kp4 k)).length == psiN k * (phiN k * k)
theorem v_two : (List.range 121).all vOk2 = true := by decide +kernel
theorem v_four : (List.range 121).all vOk4 = true := by decide +kernel
theorem v2_len {k : Nat} (k1 : 1 ≤ k) (k2 : k ≤ 120) (h : psiN k * phiN k ≤ 1152) : (V2 k).length = psiN k * phiN k := by
  have := List.all_eq_true.1 v_two k (List.mem_range.2 (by omega))
  unfold vOk2 at this
  rw [Bool.or_eq_true, Bool.or_eq_true, beq_iff_eq, beq_iff_eq, decide_eq_true_eq] at this
  unfold V2
  rw [List.length_map]
  omega
theorem v4_len {k : Nat} (k1 : 1 ≤ k) (k2 : k ≤ 120) (h : psiN k * (phiN k * k) ≤ 1152) : (V4 k).length = psiN k * (phiN k * k) := by
  have := List.all_eq_true.1 v_four k (List.mem_range.2 (by omega))
  unfold vOk4 at this
  rw [Bool.or_eq_true, Bool.or_eq_true, beq_iff_eq, beq_iff_eq, decide_eq_true_eq] at this
  unfold V4
  rw [List.length_map]
  omega
theorem dm_ext {k p q : Nat} (h1 : p / k = q / k) (h2 : p % k = q % k) : p = q := by
  rw [← Nat.div_add_mod p k, ← Nat.div_add_mod q k, h1, h2]
theorem kq2_inj {k p q : Nat} (h : kq2 k p = kq2 k q) : p = q := by
  unfold kq2 at h
  injection h with h1 h2
  injection h2 with h2 _
  have e1 : p / k = q / k := by omega
  have e2 : p % k = q % k := by omega
  exact dm_ext e1 e2
theorem kq4_inj {k p q : Nat} (h : kq4 k p = kq4 k q) : p = q := by
  unfold kq4 at h
  injection h with h1 h2
  injection h2 with h2 h3
  injection h3 with h3 h4
  have e1 : p / k / k / k = q / k / k / k := by omega
  have e2 : p / k / k % k = q / k / k % k := by omega
  have e3 : p / k % k = q / k % k := by omega
  have e4 : p % k = q % k := by omega
  exact dm_ext (dm_ext (dm_ext e1 e2) e3) e4
theorem nodup_map_inj {α β : Type} {g : α → β} {L : List α} (h : L.Nodup) (hg : ∀ x y, g x = g y → x = y) : (L.map g).Nodup := by
  rw [List.nodup_iff_pairwise_ne] at h ⊢
  exact List.pairwise_map.2 (h.imp fun hne e => hne (hg _ _ e))
theorem v2_nodup (k : Nat) : (V2 k).Nodup := nodup_map_inj (List.Pairwise.filter _ List.nodup_range) fun _ _ => kq2_inj
theorem v4_nodup (k : Nat) : (V4 k).Nodup := nodup_map_inj (List.Pairwise.filter _ List.nodup_range) fun _ _ => kq4_inj
theorem v1_nodup (k : Nat) : (V1 k).Nodup := nodup_map_inj (pts_nodup k) fun x y e => by
  obtain ⟨a, b⟩ := x
  obtain ⟨c, d⟩ := y
  simp only [Prod.mk.injEq] at e ⊢
  omega
theorem toN {n x : Int} (n1 : 1 ≤ n) : x % n = (((x % n).toNat : Nat) : Int) ∧ (x % n).toNat < n.toNat := by
  have h0 := Int.emod_nonneg x (show n ≠ 0 by omega)
  have h1 := Int.emod_lt_of_pos x (show 0 < n by omega)
  omega
theorem cop_nat {k u v : Nat} : Cop3 (k : Int) (u : Int) (v : Int) ↔ Nat.gcd (Nat.gcd u v) k = 1 := by
  constructor
  · intro h
    have := cop3_gcd h
    simpa [Int.gcd] using this
  · intro h
    refine cop3_of ?_
    simpa [Int.gcd] using h
theorem cop_mod {n c d : Int} (h : Cop3 n c d) : Cop3 n (c % n) (d % n) := by
  refine h.move (s := 1) ?_ ?_
  · rw [Int.one_mul]; exact mod_iff.1 (Int.emod_emod_of_dvd c (Int.dvd_refl n))
  · rw [Int.one_mul]; exact mod_iff.1 (Int.emod_emod_of_dvd d (Int.dvd_refl n))
theorem two_dm {k u v : Nat} (hv : v < k) : (u * k + v) / k = u ∧ (u * k + v) % k = v := by
  constructor
  · rw [Nat.add_comm, Nat.add_mul_div_right _ _ (by omega), Nat.div_eq_of_lt hv]; omega
  · rw [Nat.add_comm, Nat.add_mul_mod_self_right, Nat.mod_eq_of_lt hv]
theorem two_lt' {a b n m : Nat} (ha : a < n) (hb : b < m) : a * m + b < n * m := by
  have := Nat.mul_le_mul_right m (show a + 1 ≤ n by omega)
  rw [Nat.add_mul] at this; omega
theorem v2_mem {k : Nat} {u v : Nat} (hu : u < k) (hv : v < k) (h : Nat.gcd (Nat.gcd u v) k = 1) : (((u : Int), (v : Int), 0, 0) : K4) ∈ V2 k := by
  obtain ⟨e1, e2⟩ := two_dm (k := k) (u := u) hv
  refine List.mem_map.2 ⟨u * k + v, List.mem_filter.2 ⟨List.mem_range.2 (two_lt' hu hv), ?_⟩, ?_⟩
  · unfold kp2; rw [e1, e2, beq_iff_eq]; exact h
  · unfold kq2; rw [e1, e2]
theorem kfin2 {k : Nat} (k1 : 1 ≤ k) : SFin (kc2 (k : Int)) (V2 k).length := by
  refine fin_count (kos2 _) _ (v2_nodup k) (fun x hx => ?_) (fun v hv => ?_)
  · obtain ⟨e1, l1⟩ := toN (n := (k : Int)) (x := x.2.2.1) (by omega)
    obtain ⟨e2, l2⟩ := toN (n := (k : Int)) (x := x.2.2.2) (by omega)
    have hc := cop_mod (row_cop (n := (k : Int)) hx)
    rw [e1, e2] at hc
    unfold kc2
    rw [e1, e2]
    exact v2_mem (by omega) (by omega) (cop_nat.1 hc)
  · obtain ⟨p, hp, rfl⟩ := List.mem_map.1 hv
    obtain ⟨hr, hc⟩ := List.mem_filter.1 hp
    have hpr := List.mem_range.1 hr
    have hc' : Nat.gcd (Nat.gcd (p / k) (p % k)) k = 1 := by unfold kp2 at hc; rwa [beq_iff_eq] at hc
    obtain ⟨x, hx, h1, h2⟩ := lift_row' (cop_nat.2 hc')
    refine ⟨x, hx, ?_⟩
    have l1 : p / k < k := Nat.div_lt_of_lt_mul hpr
    have l2 : p % k < k := Nat.mod_lt _ (by omega)
    unfold kc2 kq2
    rw [mod_iff.2 h1, mod_iff.2 h2, Int.emod_eq_of_lt (Int.natCast_nonneg _) (Int.ofNat_lt.2 l1), Int.emod_eq_of_lt (Int.natCast_nonneg _) (Int.ofNat_lt.2 l2)]
theorem kfin3 {k : Nat} (k1 : 1 ≤ k) : SFin (kc3 (k : Int)) (V4 k).length := by
  have cond : ∀ a b c d : Nat, (k : Int) ∣ (a : Int) * d - b * c - 1 ↔ a * d % k = (b * c + 1) % k := fun a b c d => by
    have e : (a : Int) * d - b * c - 1 = ((a * d : Nat) : Int) - ((b * c + 1 : Nat) : Int) := by
      simp only [Int.natCast_add, Int.natCast_mul, Int.natCast_one]
      generalize (a : Int) * d = x
      generalize (b : Int) * c = y
      omega
    rw [e, ← mod_iff]
    constructor
    · intro h
      have := h
      rw [← Int.natCast_emod, ← Int.natCast_emod] at this
      exact Int.ofNat.inj this
    · intro h
      rw [← Int.natCast_emod, ← Int.natCast_emod, h]
  refine fin_count (kos3 _) _ (v4_nodup k) (fun x hx => ?_) (fun v hv => ?_)
  · obtain ⟨a, b, c, d⟩ := x
    obtain ⟨e1, l1⟩ := toN (n := (k : Int)) (x := a) (by omega)
    obtain ⟨e2, l2⟩ := toN (n := (k : Int)) (x := b) (by omega)
    obtain ⟨e3, l3⟩ := toN (n := (k : Int)) (x := c) (by omega)
    obtain ⟨e4, l4⟩ := toN (n := (k : Int)) (x := d) (by omega)
    have hk : (k : Int) ∣ a % k * (d % k) - b % k * (c % k) - 1 := by
      have f1 := Int.emod_add_mul_ediv a k
      have f2 := Int.emod_add_mul_ediv b k
      have f3 := Int.emod_add_mul_ediv c k
      have f4 := Int.emod_add_mul_ediv d k
      simp only [dtM] at hx
      refine ⟨-(a / k * d) - (a % k) * (d / k) + b / k * c + (b % k) * (c / k), ?_⟩
      have g1 : a % k = a - k * (a / k) := by omega
      have g2 : b % k = b - k * (b / k) := by omega
      have g3 : c % k = c - k * (c / k) := by omega
      have g4 : d % k = d - k * (d / k) := by omega
      rw [g1, g2, g3, g4]
      clear f1 f2 f3 f4 g1 g2 g3 g4 e1 e2 e3 e4 l1 l2 l3 l4 cond
      grind
    unfold kc3
    simp only
    rw [e1, e2, e3, e4] at hk ⊢
    have hk2 := (cond _ _ _ _).1 hk
    generalize (a % (k : Int)).toNat = A at *
    generalize (b % (k : Int)).toNat = B at *
    generalize (c % (k : Int)).toNat = C at *
    generalize (d % (k : Int)).toNat = D at *
    obtain ⟨x1, x2⟩ := two_dm (k := k) (u := (A * k + B) * k + C) (v := D) (by omega)
    obtain ⟨x3, x4⟩ := two_dm (k := k) (u := A * k + B) (v := C) (by omega)
    obtain ⟨x5, x6⟩ := two_dm (k := k) (u := A) (v := B) (by omega)
    refine List.mem_map.2 ⟨((A * k + B) * k + C) * k + D, List.mem_filter.2 ⟨List.mem_range.2 (two_lt' (two_lt' (two_lt' (by omega) (by omega)) (by omega)) (by omega)), ?_⟩, ?_⟩
    · unfold kp4; rw [x1, x2, x3, x4, x5, x6, beq_iff_eq]; exact hk2
    · unfold kq4; rw [x1, x2, x3, x4, x5, x6]
  · obtain ⟨p, hp, rfl⟩ := List.mem_map.1 hv
    obtain ⟨hr, hc⟩ := List.mem_filter.1 hp
    have hpr := List.mem_range.1 hr
    have hc' : p / k / k / k * (p % k) % k = (p / k / k % k * (p / k % k) + 1) % k := by unfold kp4 at hc; rwa [beq_iff_eq] at hc
    have l1 : p / k / k / k < k := by
      rw [Nat.div_div_eq_div_mul, Nat.div_div_eq_div_mul]
      refine Nat.div_lt_of_lt_mul ?_
      have e : k * (k * k) * k = k * k * k * k := by simp [Nat.mul_assoc]
      rw [e]; exact hpr
    have l2 : p / k / k % k < k := Nat.mod_lt _ (by omega)
    have l3 : p / k % k < k := Nat.mod_lt _ (by omega)
    have l4 : p % k < k := Nat.mod_lt _ (by omega)
    obtain ⟨x, hx, h1, h2, h3, h4⟩ := lift_all4 ((cond _ _ _ _).2 hc')
    refine ⟨x, hx, ?_⟩
    unfold kc3 kq4
    rw [mod_iff.2 h1, mod_iff.2 h2, mod_iff.2 h3, mod_iff.2 h4, Int.emod_eq_of_lt (Int.natCast_nonneg _) (Int.ofNat_lt.2 l1), Int.emod_eq_of_lt (Int.natCast_nonneg _) (Int.ofNat_lt.2 l2), Int.emod_eq_of_lt (Int.natCast_nonneg _) (Int.ofNat_lt.2 l3), Int.emod_eq_of_lt (Int.natCast_nonneg _) (Int.ofNat_lt.2 l4)]
/-- The normal form as a function. -/
noncomputable def nfU (n c d : Int) : Int := if h : 1 ≤ n then (nf_some h c d).choose else 0
noncomputable def nfV (n c d : Int) : Int := if h : 1 ≤ n then (nf_some h c d).choose_spec.choose else 0
theorem nf_spec {n : Int} (n1 : 1 ≤ n) (c d : Int) : ∃ T, NF n c d (nfU n c d) (nfV n c d) T := by
  unfold nfU nfV
  rw [dif_pos n1, dif_pos n1]
  exact (nf_some n1 c d).choose_spec.choose_spec
noncomputable def kc1 (n : Int) (m : M4) : K4 := (nfU n m.2.2.1 m.2.2.2, nfV n m.2.2.1 m.2.2.2, 0, 0)
noncomputable def kc0 (n : Int) (m : M4) : K4 := (nfU n m.1 m.2.1, nfV n m.1 m.2.1, 0, 0)
theorem nfk_iff {n c d c' d' : Int} (n1 : 1 ≤ n) : ((nfU n c d, nfV n c d, 0, 0) : K4) = (nfU n c' d', nfV n c' d', 0, 0) ↔ ∃ s, Int.gcd s n = 1 ∧ n ∣ s * c - c' ∧ n ∣ s * d - d' := by
  obtain ⟨T, h⟩ := nf_spec n1 c d
  obtain ⟨T', h'⟩ := nf_spec n1 c' d'
  constructor
  · intro e
    injection e with e1 e2
    injection e2 with e2 _
    obtain ⟨R, hR, ⟨p, hp⟩, ⟨q, hq⟩⟩ := h.inv
    obtain ⟨p', hp'⟩ := h'.eu
    obtain ⟨q', hq'⟩ := h'.ev
    rw [← e1] at hp'
    rw [← e2] at hq'
    exact ⟨T' * R, unit_mul h'.cop hR, ⟨T' * p + p', by grind⟩, ⟨T' * q + q', by grind⟩⟩
  · rintro ⟨s, hs, h1, h2⟩
    obtain ⟨e1, e2⟩ := h.orbit hs h1 h2 h'
    rw [e1, e2]
theorem nf_pair {n : Int} (n1 : 1 ≤ n) (pr : M4 → Int × Int) (hS : ∀ x, pr (mS x) = ((pr x).2, -(pr x).1)) (hT : ∀ x, pr (mT x) = ((pr x).1, (pr x).1 + (pr x).2)) : Cos fun m => ((nfU n (pr m).1 (pr m).2, nfV n (pr m).1 (pr m).2, 0, 0) : K4) := by
  refine ⟨fun x y _ _ h => ?_, fun x y _ _ h => ?_, fun x y _ _ h => ?_⟩
  · obtain ⟨s, hs, ⟨p, hp⟩, ⟨q, hq⟩⟩ := (nfk_iff n1).1 h
    show ((nfU n (pr (mS x)).1 (pr (mS x)).2, nfV n (pr (mS x)).1 (pr (mS x)).2, 0, 0) : K4) = _
    rw [hS x, hS y]
    exact (nfk_iff n1).2 ⟨s, hs, ⟨q, hq⟩, ⟨-p, by simp only; grind⟩⟩
  · obtain ⟨s, hs, ⟨p, hp⟩, ⟨q, hq⟩⟩ := (nfk_iff n1).1 h
    show ((nfU n (pr (mT x)).1 (pr (mT x)).2, nfV n (pr (mT x)).1 (pr (mT x)).2, 0, 0) : K4) = _
    rw [hT x, hT y]
    exact (nfk_iff n1).2 ⟨s, hs, ⟨p, hp⟩, ⟨p + q, by simp only; grind⟩⟩
  · have h' : ((nfU n (pr (mT x)).1 (pr (mT x)).2, nfV n (pr (mT x)).1 (pr (mT x)).2, 0, 0) : K4) = (nfU n (pr (mT y)).1 (pr (mT y)).2, nfV n (pr (mT y)).1 (pr (mT y)).2, 0, 0) := h
    rw [hT x, hT y] at h'
    obtain ⟨s, hs, ⟨p, hp⟩, ⟨q, hq⟩⟩ := (nfk_iff n1).1 h'
    simp only at hp hq
    exact (nfk_iff n1).2 ⟨s, hs, ⟨p, hp⟩, ⟨q - p, by grind⟩⟩
theorem kos1 {n : Int} (n1 : 1 ≤ n) : Cos (kc1 n) := nf_pair n1 (fun m => (m.2.2.1, m.2.2.2)) (fun _ => rfl) (fun _ => rfl)
theorem kos0 {n : Int} (n1 : 1 ≤ n) : Cos (kc0 n) := nf_pair n1 (fun m => (m.1, m.2.1)) (fun _ => rfl) (fun _ => rfl)
theorem nf_in {k : Nat} {c d : Int} (k1 : 1 ≤ k) (hc : Cop3 (k : Int) c d) : ((nfU k c d, nfV k c d, 0, 0) : K4) ∈ V1 k := by
  obtain ⟨T, h⟩ := nf_spec (n := (k : Int)) (by omega) c d
  have h0 := h.u0; have h1 := h.u1; have h2 := h.v0; have h3 := h.v1
  generalize nfU (k : Int) c d = U at *
  generalize nfV (k : Int) c d = V at *
  have e1 : U = (U.toNat : Int) := by omega
  have e2 : V = (V.toNat : Int) := by omega
  have hm : (U.toNat, V.toNat) ∈ pts k := by
    refine mem_pts.2 ⟨by omega, by omega, (ptB_iff (by omega) (by omega)).2 ?_⟩
    rw [← e1, ← e2]
    exact pt_of (by omega) h hc
  refine List.mem_map.2 ⟨_, hm, ?_⟩
  simp only
  rw [← e1, ← e2]
theorem nf_on {k : Nat} (k1 : 1 ≤ k) {v : K4} (hv : v ∈ V1 k) : ∃ c d : Int, Cop3 (k : Int) c d ∧ ∀ c' d' : Int, (k : Int) ∣ c' - c → (k : Int) ∣ d' - d → ((nfU k c' d', nfV k c' d', 0, 0) : K4) = v := by
  obtain ⟨⟨a, b⟩, hm, rfl⟩ := List.mem_map.1 hv
  obtain ⟨h1, h2, h3⟩ := mem_pts.1 hm
  have hp := (ptB_iff h1 h2).1 h3
  refine ⟨a, b, hp.cop, fun c' d' e1 e2 => ?_⟩
  obtain ⟨T, h⟩ := nf_spec (n := (k : Int)) (by omega) c' d'
  obtain ⟨f1, f2⟩ := h.orbit (s := 1) (Int.gcd_one_left _) (by rw [Int.one_mul]; exact e1) (by rw [Int.one_mul]; exact e2) hp.nf
  rw [f1, f2]
theorem kfin1 {k : Nat} (k1 : 1 ≤ k) : SFin (kc1 (k : Int)) (V1 k).length := by
  refine fin_count (kos1 (by omega)) _ (v1_nodup k) (fun x hx => nf_in k1 (row_cop hx)) (fun v hv => ?_)
  obtain ⟨c, d, hc, hv⟩ := nf_on k1 hv
  obtain ⟨x, hx, h1, h2⟩ := lift_row' hc
  exact ⟨x, hx, hv _ _ h1 h2⟩
theorem kfin0 {k : Nat} (k1 : 1 ≤ k) : SFin (kc0 (k : Int)) (V1 k).length := by
  refine fin_count (kos0 (by omega)) _ (v1_nodup k) (fun x hx => nf_in k1 (row_cop' hx)) (fun v hv => ?_)
  obtain ⟨c, d, hc, hv⟩ := nf_on k1 hv
  obtain ⟨⟨a', b', c', d'⟩, hx, h1, h2⟩ := lift_row' hc
  refine ⟨(c', d', -a', -b'), ?_, hv _ _ h1 h2⟩
  simp only [dtM] at hx ⊢
  grind
end Go.Proofs.Ytmikhkolbkdnpaa
