/- Plain mathematics: what the cycles of an action say of its signature (Euler). -/
import Derived.Test.YtmikhkolbkdnpaaEuN
namespace Go.Proofs.Ytmikhkolbkdnpaa
set_option linter.unusedVariables false

/-- The sum of h over the points below n. -/
def smB (h : Nat → Nat) : Nat → Nat
  | 0 => 0
  | k + 1 => smB h k + h k
theorem smB_congr {h h' : Nat → Nat} : ∀ n, (∀ i, i < n → h i = h' i) → smB h n = smB h' n
  | 0, _ => rfl
  | n + 1, e => by rw [smB, smB, smB_congr n fun i hi => e i (by omega), e n (by omega)]
theorem smB_add (h h' : Nat → Nat) : ∀ n, smB (fun i => h i + h' i) n = smB h n + smB h' n
  | 0 => rfl
  | n + 1 => by rw [smB, smB, smB, smB_add h h' n]; omega
theorem smB_zero {h : Nat → Nat} : ∀ n, (∀ i, i < n → h i = 0) → smB h n = 0
  | 0, _ => rfl
  | n + 1, e => by rw [smB, smB_zero n fun i hi => e i (by omega), e n (by omega)]
theorem smB_one (c x : Nat) : ∀ n, x < n → smB (fun i => if i = x then c else 0) n = c
  | 0, h => by omega
  | n + 1, h => by
    rw [smB]
    rcases Nat.lt_or_ge x n with h1 | h1
    · rw [smB_one c x n h1, if_neg (by omega), Nat.add_zero]
    · rw [smB_zero n fun i hi => if_neg (by omega), if_pos (by omega), Nat.zero_add]
theorem smB_cnt (t : Nat → Bool) (c : Nat) : ∀ n, smB (fun i => 1 + if t i = true then c else 0) n = n + c * cntB t n
  | 0 => rfl
  | n + 1 => by
    have h := smB_cnt t c n
    rw [smB, h, cntB]
    by_cases e : t n = true
    · rw [if_pos e, if_pos e, Nat.mul_add, Nat.mul_one]; omega
    · rw [if_neg e, if_neg e]; simp only [Nat.add_zero]; omega
open Classical in
/-- One of a list is the one. -/
theorem sum_one {p : Nat → Prop} {c x0 : Nat} : ∀ {L : List Nat}, L.Nodup → x0 ∈ L → (∀ x ∈ L, p x ↔ x = x0) → (L.map fun x => if p x then c else 0).sum = c
  | [], _, h, _ => by simp at h
  | a :: L, hd, h, hp => by
    rw [List.nodup_cons] at hd
    rw [List.map_cons, List.sum_cons]
    have h0 : ∀ {L : List Nat}, (∀ x ∈ L, ¬ p x) → (L.map fun x => if p x then c else 0).sum = 0 := fun {L} => by
      induction L with
      | nil => intro _; rfl
      | cons b L ih => intro h; rw [List.map_cons, List.sum_cons, if_neg (h b (by simp)), ih fun x hx => h x (by simp [hx])]
    by_cases e : a = x0
    · rw [if_pos ((hp a (by simp)).2 e), h0 fun x hx hpx => hd.1 (by rw [e, ← (hp x (by simp [hx])).1 hpx]; exact hx)]; rfl
    · have hm : x0 ∈ L := by
        rcases List.mem_cons.1 h with h1 | h1
        · exact absurd h1.symm e
        · exact h1
      rw [if_neg (fun hpx => e ((hp a (by simp)).1 hpx)), sum_one hd.2 hm fun x hx => hp x (by simp [hx]), Nat.zero_add]
open Classical in
theorem sum_swap (R : Nat → Nat → Prop) (h : Nat → Nat) (n : Nat) : ∀ L : List Nat, (L.map fun x => smB (fun i => if R x i then h i else 0) n).sum = smB (fun i => (L.map fun x => if R x i then h i else 0).sum) n
  | [] => by simp only [List.map_nil, List.sum_nil]; exact (smB_zero n fun _ _ => rfl).symm
  | a :: L => by
    simp only [List.map_cons, List.sum_cons]
    rw [sum_swap R h n L, ← smB_add]
open Classical in
/-- A weight of which every class has the same. -/
theorem cls_weight {R : Nat → Nat → Prop} {n K : Nat} {L : List Nat} (hR : Eqv R n) (hL : Reps R n L) (h : Nat → Nat) (hK : ∀ x ∈ L, smB (fun i => if R x i then h i else 0) n = K) : smB h n = K * L.length := by
  have h1 : (L.map fun x => smB (fun i => if R x i then h i else 0) n).sum = K * L.length := by
    have : ∀ M : List Nat, (∀ x ∈ M, smB (fun i => if R x i then h i else 0) n = K) → (M.map fun x => smB (fun i => if R x i then h i else 0) n).sum = K * M.length := fun M => by
      induction M with
      | nil => intro _; rfl
      | cons b M ih => intro hh; rw [List.map_cons, List.sum_cons, hh b (by simp), ih fun x hx => hh x (by simp [hx]), List.length_cons, Nat.mul_succ, Nat.add_comm]
    exact this L hK
  rw [← h1, sum_swap]
  refine smB_congr n fun i hi => ?_
  obtain ⟨x0, hx0, hr⟩ := hL.all i hi
  refine (sum_one (p := fun x => R x i) hL.nd hx0 fun x hx => ⟨fun e => ?_, fun e => e ▸ hr⟩).symm
  exact hL.one x hx x0 hx0 (hR.trans _ _ _ (hL.lt x hx) hi (hL.lt x0 hx0) e (hR.symm _ _ (hL.lt x0 hx0) hi hr))
/-- The cycles of an involution and its fixed points. -/
theorem ivl_fix {g : Nat → Nat} {m c : Nat} (h : Ivl g m) (hc : IsCls (onC g) m c) : 2 * c = m + cntB (fun q => decide (g q = q)) m := by
  obtain ⟨L, hL, rfl⟩ := hc
  have hp := ivl_prm h
  have h1 := cls_weight (K := 2) (onC_eqv hp) hL (fun i => 1 + if (decide (g i = i)) = true then 1 else 0) fun x hx => ?_
  · rw [smB_cnt, Nat.one_mul] at h1; omega
  · have hxm := hL.lt x hx
    have hon : ∀ i, onC g x i ↔ i = x ∨ i = g x := fun i => by
      constructor
      · rintro ⟨k, rfl⟩
        have : ∀ k, itr g k x = x ∨ itr g k x = g x := fun k => by
          induction k with
          | zero => exact .inl rfl
          | succ k ih =>
            rcases ih with e | e
            · right; show g (itr g k x) = g x; rw [e]
            · left; show g (itr g k x) = x; rw [e, h.inv x hxm]
        exact this k
      · rintro (e | e)
        · exact ⟨0, e.symm⟩
        · exact ⟨1, e.symm⟩
    by_cases hf : g x = x
    · rw [smB_congr (h' := fun i => if i = x then 2 else 0) m fun i _ => ?_, smB_one 2 x m hxm]
      by_cases e : i = x
      · subst e; rw [if_pos ((hon _).2 (.inl rfl)), if_pos (decide_eq_true hf), if_pos rfl]
      · rw [if_neg (fun e2 => ((hon i).1 e2).elim e fun e3 => e (by rw [e3, hf])), if_neg e]
    · rw [smB_congr (h' := fun i => (if i = x then 1 else 0) + if i = g x then 1 else 0) m fun i _ => ?_, smB_add, smB_one 1 x m hxm, smB_one 1 (g x) m (h.lt x hxm)]
      by_cases e : i = x
      · subst e; rw [if_pos ((hon _).2 (.inl rfl)), if_neg (by simpa using hf), if_pos rfl, if_neg (fun e => hf e.symm)]
      · by_cases e2 : i = g x
        · subst e2; rw [if_pos ((hon _).2 (.inr rfl)), if_neg (by rw [h.inv x hxm]; simpa using fun e3 => hf e3.symm), if_neg e, if_pos rfl]
        · rw [if_neg (fun e3 => ((hon i).1 e3).elim e e2), if_neg e, if_neg e2]
/-- The same of order three. -/
theorem thr_fix {u : Nat → Nat} {m c : Nat} (hp : Prm u m) (h3 : ∀ i, i < m → u (u (u i)) = i) (hc : IsCls (onC u) m c) : 3 * c = m + 2 * cntB (fun q => decide (u q = q)) m := by
  obtain ⟨L, hL, rfl⟩ := hc
  have h1 := cls_weight (K := 3) (onC_eqv hp) hL (fun i => 1 + if (decide (u i = i)) = true then 2 else 0) fun x hx => ?_
  · rw [smB_cnt] at h1; omega
  · have hxm := hL.lt x hx
    have l1 := hp.lt x hxm
    have l2 := hp.lt _ l1
    have hxx := h3 x hxm
    have hon : ∀ i, onC u x i ↔ i = x ∨ i = u x ∨ i = u (u x) := fun i => by
      constructor
      · rintro ⟨k, rfl⟩
        have : ∀ k, itr u k x = x ∨ itr u k x = u x ∨ itr u k x = u (u x) := fun k => by
          induction k with
          | zero => exact .inl rfl
          | succ k ih =>
            rcases ih with e | e | e
            · right; left; show u (itr u k x) = u x; rw [e]
            · right; right; show u (itr u k x) = u (u x); rw [e]
            · left; show u (itr u k x) = x; rw [e, hxx]
        exact this k
      · rintro (e | e | e)
        · exact ⟨0, e.symm⟩
        · exact ⟨1, e.symm⟩
        · exact ⟨2, e.symm⟩
    by_cases hf : u x = x
    · rw [smB_congr (h' := fun i => if i = x then 3 else 0) m fun i _ => ?_, smB_one 3 x m hxm]
      by_cases e : i = x
      · subst e; rw [if_pos ((hon _).2 (.inl rfl)), if_pos (decide_eq_true hf), if_pos rfl]
      · rw [if_neg (fun e2 => by rcases (hon i).1 e2 with e3 | e3 | e3; (exact e e3); (exact e (by rw [e3, hf])); exact e (by rw [e3, hf, hf])), if_neg e]
    · have n1 : u (u x) ≠ u x := fun e => hf (hp.inj _ _ l1 hxm e)
      have n2 : u (u x) ≠ x := fun e => hf (by rw [e] at hxx; exact hxx)
      rw [smB_congr (h' := fun i => ((if i = x then 1 else 0) + if i = u x then 1 else 0) + if i = u (u x) then 1 else 0) m fun i _ => ?_, smB_add, smB_add, smB_one 1 x m hxm, smB_one 1 (u x) m l1, smB_one 1 _ m l2]
      by_cases e : i = x
      · subst e; rw [if_pos ((hon _).2 (.inl rfl)), if_neg (by simpa using hf), if_pos rfl, if_neg (fun e => hf e.symm), if_neg (fun e => n2 e.symm)]
      · by_cases e2 : i = u x
        · subst e2; rw [if_pos ((hon _).2 (.inr (.inl rfl))), if_neg (by simpa using n1), if_neg e, if_pos rfl, if_neg (fun e => n1 e.symm)]
        · by_cases e3 : i = u (u x)
          · subst e3; rw [if_pos ((hon _).2 (.inr (.inr rfl))), if_neg (by rw [hxx]; simpa using fun e4 => n2 e4.symm), if_neg e, if_neg e2, if_pos rfl]
          · rw [if_neg (fun e4 => by rcases (hon i).1 e4 with e5 | e5 | e5; (exact e e5); (exact e2 e5); exact e3 e5), if_neg e, if_neg e2, if_neg e3]
/-- The classes that the code lists. -/
theorem cst_reps {f z : Nat → Nat} {n : Nat} (hp : Prm f n) (hz : Inv2 f z n) : Reps (fun i j => uB f z n i j = true) n (cst (uB f z n) n).2 := by
  have hI := cst_inv hp hz n (Nat.le_refl n)
  have hidx : ∀ q (h : q < (cst (uB f z n) n).2.length), (cst (uB f z n) n).1 ((cst (uB f z n) n).2[q]) = (q : Int) := fun q h =>
    (hI.iff _ (hI.bd _ (List.getElem_mem h)) q h).1 (uB_refl hp hz (hI.bd _ (List.getElem_mem h)))
  refine ⟨hI.bd, ?_, fun x hx y hy hr => ?_, fun i hi => ?_⟩
  · rw [List.nodup_iff_pairwise_ne, List.pairwise_iff_getElem]
    intro q r hq hr hlt e
    have h1 := hidx q hq
    have h2 := hidx r hr
    rw [e] at h1
    omega
  · obtain ⟨q, hq, rfl⟩ := List.mem_iff_getElem.1 hx
    obtain ⟨r, hr', rfl⟩ := List.mem_iff_getElem.1 hy
    have h1 := (hI.iff _ (hI.bd _ (List.getElem_mem hr')) q hq).1 hr
    have h2 := hidx r hr'
    have e : q = r := by
      have h3 : (q : Int) = r := by rw [← h1]; exact h2
      omega
    subst e; rfl
  · have h1 := hI.all i hi
    have h2 := hI.rng i
    have hq : ((cst (uB f z n) n).1 i).toNat < (cst (uB f z n) n).2.length := by omega
    exact ⟨_, List.getElem_mem hq, (hI.iff i hi _ hq).2 (by omega)⟩
theorem uB_eqv {f z : Nat → Nat} {n : Nat} (hp : Prm f n) (hz : Inv2 f z n) : Eqv (fun i j => uB f z n i j = true) n := ⟨fun i hi => uB_refl hp hz hi, fun i j hi _ h => uB_symm hp hz hi h, fun i j k hi _ _ h h' => uB_trans hp hz hi h h'⟩
/-- The numbers of a signature. -/
def cuZ (g f : Nat → Nat) (n : Nat) : Nat := (cst (uB f (fun i => g (g i)) n) n).2.length
def n2Z (g : Nat → Nat) (n : Nat) : Nat := cntB (fun q => decide (sO g n q = q)) (mO g n)
def n3Z (g f : Nat → Nat) (n : Nat) : Nat := cntB (fun q => decide (tO g f n (sO g n q) = q)) (mO g n)
section
variable {g f : Nat → Nat} {n : Nat}
/-- The classes of the cusps are the cycles of T on the projective action. -/
theorem PAct.cu (h : PAct g f n) (hz : Inv2 f (fun i => g (g i)) n) : (cyN (tO g f n) (mO g n)).length = cuZ g f n := by
  refine (IsCls.map (R := fun i j => uB f (fun i => g (g i)) n i j = true) (Q := onC (tO g f n)) (uB_eqv h.fp hz) (onC_eqv h.pt) (a := cuZ g f n) ⟨_, cst_reps h.fp hz, rfl⟩ (cyN_cls h.pt) (phO g n) h.quo.lt h.onto fun i j hi hj => ?_).symm
  have ht : ∀ k, itr (tO g f n) k (phO g n i) = phO g n (itr f k i) := fun k => by
    induction k with
    | zero => rfl
    | succ k ih => show tO g f n (itr (tO g f n) k (phO g n i)) = phO g n (f (itr f k i)); rw [ih, h.dt _ (h.fp.itr_lt hi k)]
  show uB f (fun i => g (g i)) n i j = true ↔ _
  rw [uB_iff h.fp hz hi]
  constructor
  · rintro (⟨k, e⟩ | ⟨k, e⟩)
    · exact ⟨k, by rw [ht, e]⟩
    · have e2 : j = zOf g (itr f k i) := by rw [← e]; exact Inv2.itr h.fp hz hi k
      exact ⟨k, by rw [ht]; exact (h.quo.iff _ _ (h.fp.itr_lt hi k) hj).2 (.inr e2)⟩
  · rintro ⟨k, e⟩
    rw [ht] at e
    rcases (h.quo.iff _ _ (h.fp.itr_lt hi k) hj).1 e with e2 | e2
    · exact .inl ⟨k, e2.symm⟩
    · exact .inr ⟨k, by rw [e2]; exact Inv2.itr h.fp hz hi k⟩
theorem PAct.turn3 (h : PAct g f n) (h3 : ∀ i, i < n → f (g (f (g (f (g i))))) = g (g i)) (q : Nat) (hq : q < mO g n) : tO g f n (sO g n (tO g f n (sO g n (tO g f n (sO g n q))))) = q := by
  obtain ⟨i, hi, rfl⟩ := h.onto q hq
  have k1 := h.gp.lt i hi
  have k2 := h.fp.lt _ k1
  have k3 := h.gp.lt _ k2
  have k4 := h.fp.lt _ k3
  have k5 := h.gp.lt _ k4
  rw [h.ds i hi, h.dt _ k1, h.ds _ k2, h.dt _ k3, h.ds _ k4, h.dt _ k5, h3 i hi]
  exact ((h.quo.iff i _ hi (h.zl i hi)).2 (.inr rfl)).symm
theorem PAct.nu2 (h : PAct g f n) : 2 * (cyN (sO g n) (mO g n)).length = mO g n + n2Z g n := ivl_fix h.ivl (cyN_cls h.ps)
theorem PAct.nu3 (h : PAct g f n) (h3 : ∀ i, i < n → f (g (f (g (f (g i))))) = g (g i)) : 3 * (cyN (fun i => tO g f n (sO g n i)) (mO g n)).length = mO g n + 2 * n3Z g f n := thr_fix h.ptu (h.turn3 h3) (cyN_cls h.ptu)
/-- The genus. -/
def gnZ (g f : Nat → Nat) (n : Nat) : Int := ((12 : Int) + (mO g n : Nat) - 3 * (n2Z g n : Nat) - 4 * (n3Z g f n : Nat) - 6 * (cuZ g f n : Nat)).tdiv 12
theorem PAct.genus (h : PAct g f n) (hz : Inv2 f (fun i => g (g i)) n) (h3 : ∀ i, i < n → f (g (f (g (f (g i))))) = g (g i)) : eulZ g f n = 2 - 2 * gnZ g f n ∧ 0 ≤ gnZ g f n ∧ 12 * gnZ g f n = (12 : Int) + (mO g n : Nat) - 3 * (n2Z g n : Nat) - 4 * (n3Z g f n : Nat) - 6 * (cuZ g f n : Nat) := by
  have h1 := h.nu2
  have h2 := h.nu3 h3
  have h4 := h.cu hz
  have h5 := h.eul
  unfold eulZ at *
  rw [h4] at *
  unfold gnZ
  generalize (cyN (sO g n) (mO g n)).length = a at *
  generalize (cyN (fun i => tO g f n (sO g n i)) (mO g n)).length = b at *
  obtain ⟨h5, h6⟩ := h5
  rw [Int.tdiv_eq_ediv_of_nonneg (by omega)]
  omega
theorem cntB_leS (t : Nat → Bool) : ∀ n, cntB t n ≤ n
  | 0 => Nat.le_refl 0
  | n + 1 => by have := cntB_leS t n; rw [cntB]; split <;> omega
theorem PAct.sbd (h : PAct g f n) (hz : Inv2 f (fun i => g (g i)) n) : n2Z g n ≤ mO g n ∧ n3Z g f n ≤ mO g n ∧ cuZ g f n ≤ mO g n := by
  refine ⟨cntB_leS _ _, cntB_leS _ _, ?_⟩
  rw [← h.cu hz]; exact h.bd.2.2
/-- Without -1 no point is fixed by S. -/
theorem PAct.no2 (h : PAct g f n) (hm : g (g 0) ≠ 0) : n2Z g n = 0 := by
  have hne : ∀ x, x < n → g (g x) ≠ x := h.full (fun x => g (g x) ≠ x) hm (fun x hx hq e => hq (h.gp.inj _ _ (h.gp.lt _ (h.gp.lt x hx)) hx e)) (fun x hx hq e => hq (h.fp.inj _ _ (h.gp.lt _ (h.gp.lt x hx)) hx (by rw [h.fc x hx]; exact e)))
  have : ∀ m, m ≤ mO g n → cntB (fun q => decide (sO g n q = q)) m = 0 := fun m => by
    induction m with
    | zero => intro _; rfl
    | succ m ih =>
      intro hm
      rw [cntB, ih (by omega), if_neg]
      intro e
      have e : sO g n m = m := of_decide_eq_true e
      obtain ⟨i, hi, hq⟩ := h.onto m (by omega)
      rw [← hq, h.ds i hi] at e
      rcases (h.quo.iff _ _ (h.gp.lt i hi) hi).1 e with e2 | e2
      · exact hne i hi (by rw [← e2]; exact e2.symm)
      · have e3 : g (g (g i)) = i := e2.symm
        have e4 := h.zz i hi
        rw [e3] at e4
        exact hne i hi (by rw [e4, e4])
  exact this _ (Nat.le_refl _)
end
end Go.Proofs.Ytmikhkolbkdnpaa
