/- Plain mathematics: the projective action as a quotient, its cycles counted, the Euler characteristic of an action and of the renumbered one. -/
import Derived.Test.YtmikhkolbkdnpaaEulM
import Derived.Test.YtmikhkolbkdnpaaCycL
import Derived.Test.YtmikhkolbkdnpaaRProL
import Derived.Test.YtmikhkolbkdnpaaChkL
namespace Go.Proofs.Ytmikhkolbkdnpaa
set_option linter.unusedVariables false

/-- The cycles that the code lists are as many as the classes. -/
theorem cyN_cls {f : Nat → Nat} {n : Nat} (hp : Prm f n) : IsCls (onC f) n (cyN f n).length := by
  have hI := cst_inv hp (inv2_id hp) n (Nat.le_refl n)
  have hon : ∀ x j, x < n → (uB f (fun i => i) n x j = true ↔ onC f x j) := fun x j hx => by
    rw [uB_iff hp (inv2_id hp) hx]; exact ⟨fun h => h.elim id id, .inl⟩
  have hl : (cyN f n).length = (cyP f n n).length := by unfold cyN; rw [List.length_map]
  rw [hl]
  have hidx : ∀ q (h : q < (cyP f n n).length), (cst (uB f (fun i => i) n) n).1 ((cyP f n n)[q]) = (q : Int) := fun q h =>
    (hI.iff _ (hI.bd _ (List.getElem_mem h)) q h).1 ((hon _ _ (hI.bd _ (List.getElem_mem h))).2 (onC_refl f _))
  refine ⟨cyP f n n, ⟨hI.bd, ?_, fun x hx y hy hr => ?_, fun i hi => ?_⟩, rfl⟩
  · rw [List.nodup_iff_pairwise_ne, List.pairwise_iff_getElem]
    intro q r hq hr hlt e
    have h1 := hidx q hq
    have h2 := hidx r hr
    rw [e] at h1
    omega
  · obtain ⟨q, hq, rfl⟩ := List.mem_iff_getElem.1 hx
    obtain ⟨r, hr', rfl⟩ := List.mem_iff_getElem.1 hy
    have h1 := (hI.iff _ (hI.bd _ (List.getElem_mem hr')) q hq).1 ((hon _ _ (hI.bd _ (List.getElem_mem hq))).2 hr)
    have h2 := hidx r hr'
    have e : q = r := by
      have h3 : (q : Int) = r := by rw [← h1]; exact h2
      omega
    subst e; rfl
  · have h1 := hI.all i hi
    have h2 := hI.rng i
    have hq : ((cst (uB f (fun i => i) n) n).1 i).toNat < (cyP f n n).length := by
      have h3 : (cyP f n n).length = (cst (uB f (fun i => i) n) n).2.length := rfl
      omega
    exact ⟨_, List.getElem_mem hq, (hon _ _ (hI.bd _ (List.getElem_mem hq))).1 ((hI.iff i hi _ hq).2 (by omega))⟩
/-- What the numbers of the orbits are: a map onto, whose fibres are the orbits. -/
structure QuO (z : Nat → Nat) (n m : Nat) (φ L : Nat → Nat) : Prop where
  lt : ∀ i, i < n → φ i < m
  le : ∀ q, q < m → L q < n
  at_ : ∀ q, q < m → φ (L q) = q
  iff : ∀ i j, i < n → j < n → (φ i = φ j ↔ j = i ∨ j = z i)
  zero : 0 < n → φ 0 = 0
theorem pjN_quo {z : Nat → Nat} {n : Nat} (hzl : ∀ i, i < n → z i < n) (hzz : ∀ i, i < n → z (z i) = i) : ∀ k, k ≤ n → (∀ j, j < k → (pjN z k).1 j < (pjN z k).2.length) ∧ (∀ q, q < (pjN z k).2.length → (pjN z k).2.getD q 0 < k ∧ (pjN z k).1 ((pjN z k).2.getD q 0) = q) ∧ (∀ i j, i < k → j < k → ((pjN z k).1 i = (pjN z k).1 j ↔ j = i ∨ j = z i)) ∧ (0 < k → (pjN z k).1 0 = 0)
  | 0, _ => ⟨fun j h => by omega, fun q h => by simp [pjN] at h, fun i j h => by omega, fun h => by omega⟩
  | k + 1, hk => by
    obtain ⟨h1, h2, h3, h4⟩ := pjN_quo hzl hzz k (by omega)
    have hkk := hzz k (by omega)
    by_cases h : z k < k
    · rw [pjN_old h]
      have hN : ∀ j, (if j = k then (pjN z k).1 (z k) else (pjN z k).1 j) = (pjN z k).1 (if j = k then z k else j) := fun j => by by_cases e : j = k <;> simp [e]
      refine ⟨fun j hj => ?_, fun q hq => ?_, fun i j hi hj => ?_, fun _ => ?_⟩
      · show (if j = k then (pjN z k).1 (z k) else (pjN z k).1 j) < _
        rw [hN]
        exact h1 _ (by split <;> omega)
      · obtain ⟨a, b⟩ := h2 q hq
        refine ⟨Nat.lt_succ_of_lt a, ?_⟩
        show (if (pjN z k).2.getD q 0 = k then (pjN z k).1 (z k) else (pjN z k).1 ((pjN z k).2.getD q 0)) = q
        rw [if_neg (by omega)]; exact b
      · show (if i = k then (pjN z k).1 (z k) else (pjN z k).1 i) = (if j = k then (pjN z k).1 (z k) else (pjN z k).1 j) ↔ _
        rw [hN, hN, h3 _ _ (by split <;> omega) (by split <;> omega)]
        by_cases e : i = k <;> by_cases e2 : j = k
        · simp [e, e2]
        · rw [if_pos e, if_neg e2, hkk, e]
          exact ⟨fun hh => hh.elim .inr .inl, fun hh => hh.elim .inr .inl⟩
        · rw [if_neg e, if_pos e2, e2]
          constructor
          · rintro (hh | hh)
            · right; rw [← hh, hkk]
            · left; rw [← hzz i (by omega), ← hh, hkk]
          · rintro (hh | hh)
            · exact absurd hh.symm e
            · left; rw [hh, hzz i (by omega)]
        · rw [if_neg e, if_neg e2]
      · show (if 0 = k then (pjN z k).1 (z k) else (pjN z k).1 0) = 0
        rw [if_neg (by omega)]; exact h4 (by omega)
    · rw [pjN_new h]
      have hl : ((pjN z k).2 ++ [k]).length = (pjN z k).2.length + 1 := by simp
      refine ⟨fun j hj => ?_, fun q hq => ?_, fun i j hi hj => ?_, fun _ => ?_⟩
      · show (if j = k then (pjN z k).2.length else (pjN z k).1 j) < ((pjN z k).2 ++ [k]).length
        rw [hl]
        by_cases e : j = k
        · rw [if_pos e]; omega
        · rw [if_neg e]; have := h1 j (by omega); omega
      · have hq' : q < (pjN z k).2.length + 1 := by rw [← hl]; exact hq
        show ((pjN z k).2 ++ [k]).getD q 0 < k + 1 ∧ (if ((pjN z k).2 ++ [k]).getD q 0 = k then (pjN z k).2.length else (pjN z k).1 (((pjN z k).2 ++ [k]).getD q 0)) = q
        rcases Nat.lt_or_ge q (pjN z k).2.length with h5 | h5
        · have e : ((pjN z k).2 ++ [k]).getD q 0 = (pjN z k).2.getD q 0 := by
            rw [List.getD_eq_getElem?_getD, List.getD_eq_getElem?_getD, List.getElem?_append_left h5]
          obtain ⟨a, b⟩ := h2 q h5
          rw [e, if_neg (by omega)]
          exact ⟨by omega, b⟩
        · have e0 : q = (pjN z k).2.length := by omega
          have e : ((pjN z k).2 ++ [k]).getD q 0 = k := by rw [e0]; simp [List.getD]
          rw [e, if_pos rfl]
          exact ⟨by omega, e0.symm⟩
      · show (if i = k then (pjN z k).2.length else (pjN z k).1 i) = (if j = k then (pjN z k).2.length else (pjN z k).1 j) ↔ _
        by_cases e : i = k <;> by_cases e2 : j = k
        · simp [e, e2]
        · rw [if_pos e, if_neg e2]
          have := h1 j (by omega)
          exact ⟨fun hh => by omega, fun hh => by rcases hh with hh | hh; (omega); (rw [e] at hh; omega)⟩
        · rw [if_neg e, if_pos e2]
          have := h1 i (by omega)
          refine ⟨fun hh => by omega, fun hh => ?_⟩
          rcases hh with hh | hh
          · omega
          · have := hzz i (by omega); rw [← hh, e2] at this; omega
        · rw [if_neg e, if_neg e2]; exact h3 i j (by omega) (by omega)
      · show (if 0 = k then (pjN z k).2.length else (pjN z k).1 0) = 0
        by_cases e : 0 = k
        · rw [if_pos e]; subst e; rfl
        · rw [if_neg e]; exact h4 (by omega)
theorem pjN_quo' {z : Nat → Nat} {n : Nat} (hzl : ∀ i, i < n → z i < n) (hzz : ∀ i, i < n → z (z i) = i) : QuO z n (pjN z n).2.length (pjN z n).1 (fun q => (pjN z n).2.getD q 0) := by
  obtain ⟨h1, h2, h3, h4⟩ := pjN_quo hzl hzz n (Nat.le_refl n)
  exact ⟨h1, fun q hq => (h2 q hq).1, fun q hq => (h2 q hq).2, h3, h4⟩
/-- A map of the points that commutes with z goes down to the orbits. -/
theorem QuO.down {z φ L F : Nat → Nat} {n m : Nat} (h : QuO z n m φ L) (hF : ∀ i, i < n → F i < n) (hc : ∀ i, i < n → F (z i) = z (F i)) (hzl : ∀ i, i < n → z i < n) {i : Nat} (hi : i < n) : φ (F (L (φ i))) = φ (F i) := by
  have h1 := h.le _ (h.lt i hi)
  have h2 := (h.iff i _ hi h1).1 (h.at_ _ (h.lt i hi)).symm
  rcases h2 with e | e
  · rw [e]
  · rw [e, hc i hi]
    exact ((h.iff _ _ (hF i hi) (hzl _ (hF i hi))).2 (.inr rfl)).symm
theorem QuO.prm {z φ L F : Nat → Nat} {n m : Nat} (h : QuO z n m φ L) (hF : Prm F n) (hc : ∀ i, i < n → F (z i) = z (F i)) (hzl : ∀ i, i < n → z i < n) : Prm (fun q => φ (F (L q))) m := by
  refine ⟨fun q hq => h.lt _ (hF.lt _ (h.le q hq)), fun q r hq hr e => ?_⟩
  have l1 := h.le q hq
  have l2 := h.le r hr
  have e2 := (h.iff _ _ (hF.lt _ l1) (hF.lt _ l2)).1 e
  have e3 : φ (L q) = φ (L r) := by
    refine (h.iff _ _ l1 l2).2 ?_
    rcases e2 with e2 | e2
    · exact .inl (hF.inj _ _ l2 l1 e2)
    · rw [← hc _ l1] at e2; exact .inr (hF.inj _ _ l2 (hzl _ l1) e2)
  rwa [h.at_ q hq, h.at_ r hr] at e3
theorem cls_id (m : Nat) : IsCls (onC fun i => i) m m := by
  have hfix : ∀ k i, itr (fun i => i) k i = i := fun k i => by
    induction k with
    | zero => rfl
    | succ k ih => exact ih
  exact ⟨List.range m, ⟨fun x hx => List.mem_range.1 hx, List.nodup_range, fun x _ y _ ⟨k, hk⟩ => by rw [hfix] at hk; exact hk, fun i hi => ⟨i, List.mem_range.2 hi, 0, rfl⟩⟩, by simp⟩
/-- Two quotients with the same fibres: a map that goes down to both has as many cycles on both. -/
theorem quo_cls {n ma mb ca cb : Nat} {φ ψ F fa fb : Nat → Nat} (hφ : ∀ i, i < n → φ i < ma) (oφ : ∀ j, j < ma → ∃ i, i < n ∧ φ i = j) (hψ : ∀ i, i < n → ψ i < mb) (oψ : ∀ j, j < mb → ∃ i, i < n ∧ ψ i = j) (hiff : ∀ i j, i < n → j < n → (φ i = φ j ↔ ψ i = ψ j))
    (hF : ∀ i, i < n → F i < n) (da : ∀ i, i < n → fa (φ i) = φ (F i)) (db : ∀ i, i < n → fb (ψ i) = ψ (F i)) (pa : Prm fa ma) (pb : Prm fb mb) (h : IsCls (onC fa) ma ca) (h' : IsCls (onC fb) mb cb) : ca = cb := by
  have hl : ∀ k i, i < n → itr F k i < n := fun k i hi => by
    induction k with
    | zero => exact hi
    | succ k ih => exact hF _ ih
  have ea : ∀ k i, i < n → itr fa k (φ i) = φ (itr F k i) := fun k i hi => by
    induction k with
    | zero => rfl
    | succ k ih => show fa (itr fa k (φ i)) = φ (F (itr F k i)); rw [ih, da _ (hl k i hi)]
  have eb : ∀ k i, i < n → itr fb k (ψ i) = ψ (itr F k i) := fun k i hi => by
    induction k with
    | zero => rfl
    | succ k ih => show fb (itr fb k (ψ i)) = ψ (F (itr F k i)); rw [ih, db _ (hl k i hi)]
  have hRa : ∀ i j, i < n → j < n → ((∃ k, φ (itr F k i) = φ j) ↔ onC fa (φ i) (φ j)) := fun i j hi _ => ⟨fun ⟨k, e⟩ => ⟨k, by rw [ea k i hi]; exact e⟩, fun ⟨k, e⟩ => ⟨k, by rw [← ea k i hi]; exact e⟩⟩
  have hRb : ∀ i j, i < n → j < n → ((∃ k, φ (itr F k i) = φ j) ↔ onC fb (ψ i) (ψ j)) := fun i j hi hj => ⟨fun ⟨k, e⟩ => ⟨k, by rw [eb k i hi]; exact (hiff _ _ (hl k i hi) hj).1 e⟩, fun ⟨k, e⟩ => ⟨k, (hiff _ _ (hl k i hi) hj).2 (by rw [← eb k i hi]; exact e)⟩⟩
  have hE : Eqv (fun i j => ∃ k, φ (itr F k i) = φ j) n := by
    have hq := onC_eqv pa
    refine ⟨fun i hi => ⟨0, rfl⟩, fun i j hi hj e => ?_, fun i j k hi hj hk e e' => ?_⟩
    · exact (hRa j i hj hi).2 (hq.symm _ _ (hφ i hi) (hφ j hj) ((hRa i j hi hj).1 e))
    · exact (hRa i k hi hk).2 (hq.trans _ _ _ (hφ i hi) (hφ j hj) (hφ k hk) ((hRa i j hi hj).1 e) ((hRa j k hj hk).1 e'))
  obtain ⟨c, hc⟩ := cls_ex hE
  rw [← IsCls.map hE (onC_eqv pa) hc h φ hφ oφ hRa, ← IsCls.map hE (onC_eqv pb) hc h' ψ hψ oψ hRb]
/-- What an action says of its projective action. -/
structure PAct (g f : Nat → Nat) (n : Nat) : Prop where
  gp : Prm g n
  fp : Prm f n
  pos : 0 < n
  zz : ∀ i, i < n → g (g (g (g i))) = i
  gc : ∀ i, i < n → g (g (g i)) = g (g (g i))
  fc : ∀ i, i < n → f (g (g i)) = g (g (f i))
  full : ∀ Q : Nat → Prop, Q 0 → (∀ x, x < n → Q x → Q (g x)) → (∀ x, x < n → Q x → Q (f x)) → ∀ x, x < n → Q x
theorem pact_of {S T : List Int} (h : Act2 S T) : PAct (fnz S) (fnz T) S.length := by
  have hz := rel_inv h.ps h.pt h.rel
  have h0 := h.pos
  refine ⟨h.ps, h.pt, by omega, fun i hi => (h.rel i hi).1, fun i hi => rfl, fun i hi => ?_, fun Q q0 qg qf x hx => ?_⟩
  · have := Inv2.itr h.pt hz hi 1
    exact this
  · exact bst_all h.ps h.pt (by omega) q0 qg qf S.length x (mem_full (bst_nodup _ _ _ _) h.full (bst_lt h.ps h.pt (by omega) _) hx)
def zOf (g : Nat → Nat) (i : Nat) : Nat := g (g i)
def phO (g : Nat → Nat) (n : Nat) : Nat → Nat := (pjN (zOf g) n).1
def lsO (g : Nat → Nat) (n : Nat) (q : Nat) : Nat := (pjN (zOf g) n).2.getD q 0
def mO (g : Nat → Nat) (n : Nat) : Nat := (pjN (zOf g) n).2.length
section
variable {g f : Nat → Nat} {n : Nat}
theorem PAct.zl (h : PAct g f n) (i : Nat) (hi : i < n) : zOf g i < n := h.gp.lt _ (h.gp.lt i hi)
theorem PAct.quo (h : PAct g f n) : QuO (zOf g) n (mO g n) (phO g n) (lsO g n) := pjN_quo' h.zl fun i hi => h.zz i hi
theorem PAct.mpos (h : PAct g f n) : 0 < mO g n := by have := h.quo.lt 0 h.pos; omega
theorem PAct.mle (h : PAct g f n) : mO g n ≤ n := pjN_len _ _
theorem PAct.tur (h : PAct g f n) : Prm (fun i => f (g i)) n := ⟨fun i hi => h.fp.lt _ (h.gp.lt i hi), fun i j hi hj e => h.gp.inj _ _ hi hj (h.fp.inj _ _ (h.gp.lt i hi) (h.gp.lt j hj) e)⟩
theorem PAct.tc (h : PAct g f n) (i : Nat) (hi : i < n) : f (g (zOf g i)) = zOf g (f (g i)) := by
  have := h.fc (g i) (h.gp.lt i hi)
  exact this
/-- The two permutations of the projective action. -/
def sO (g : Nat → Nat) (n q : Nat) : Nat := phO g n (g (lsO g n q))
def tO (g f : Nat → Nat) (n q : Nat) : Nat := phO g n (f (lsO g n q))
theorem PAct.ps (h : PAct g f n) : Prm (sO g n) (mO g n) := h.quo.prm h.gp (fun i hi => rfl) h.zl
theorem PAct.pt (h : PAct g f n) : Prm (tO g f n) (mO g n) := h.quo.prm h.fp (fun i hi => h.fc i hi) h.zl
theorem PAct.ds (h : PAct g f n) (i : Nat) (hi : i < n) : sO g n (phO g n i) = phO g n (g i) := h.quo.down (fun i hi => h.gp.lt i hi) (fun i hi => rfl) h.zl hi
theorem PAct.dt (h : PAct g f n) (i : Nat) (hi : i < n) : tO g f n (phO g n i) = phO g n (f i) := h.quo.down (fun i hi => h.fp.lt i hi) (fun i hi => h.fc i hi) h.zl hi
theorem PAct.onto (h : PAct g f n) (j : Nat) (hj : j < mO g n) : ∃ i, i < n ∧ phO g n i = j := ⟨_, h.quo.le j hj, h.quo.at_ j hj⟩
theorem PAct.ivl (h : PAct g f n) : Ivl (sO g n) (mO g n) := by
  refine ⟨h.ps.lt, fun j hj => ?_⟩
  obtain ⟨i, hi, rfl⟩ := h.onto j hj
  rw [h.ds i hi, h.ds _ (h.gp.lt i hi)]
  exact ((h.quo.iff i _ hi (h.zl i hi)).2 (.inr rfl)).symm
theorem PAct.all (h : PAct g f n) (Q : Nat → Prop) (q0 : Q 0) (qg : ∀ x, x < mO g n → Q x → Q (sO g n x)) (qf : ∀ x, x < mO g n → Q x → Q (tO g f n x)) (x : Nat) (hx : x < mO g n) : Q x := by
  obtain ⟨i, hi, rfl⟩ := h.onto x hx
  refine h.full (fun i => Q (phO g n i)) (by show Q (phO g n 0); rw [show phO g n 0 = 0 from h.quo.zero h.pos]; exact q0) (fun i hi hq => ?_) (fun i hi hq => ?_) i hi
  · show Q (phO g n (g i)); rw [← h.ds i hi]; exact qg _ (h.quo.lt i hi) hq
  · show Q (phO g n (f i)); rw [← h.dt i hi]; exact qf _ (h.quo.lt i hi) hq
/-- The Euler characteristic. -/
def eulZ (g f : Nat → Nat) (n : Nat) : Int := ((cyN (sO g n) (mO g n)).length : Int) + (cyN (fun i => tO g f n (sO g n i)) (mO g n)).length + (cyN (tO g f n) (mO g n)).length - mO g n
theorem PAct.ptu (h : PAct g f n) : Prm (fun i => tO g f n (sO g n i)) (mO g n) := ⟨fun i hi => h.pt.lt _ (h.ps.lt i hi), fun i j hi hj e => h.ps.inj _ _ hi hj (h.pt.inj _ _ (h.ps.lt i hi) (h.ps.lt j hj) e)⟩
theorem PAct.eul (h : PAct g f n) : eulZ g f n ≤ 2 ∧ eulZ g f n % 2 = 0 := by
  obtain ⟨h1, h2⟩ := euler_bound h.ivl h.pt h.mpos h.all (cyN_cls h.ps) (cyN_cls h.pt) (cyN_cls h.ptu)
  unfold eulZ
  omega
theorem PAct.bd (h : PAct g f n) : (cyN (sO g n) (mO g n)).length ≤ mO g n ∧ (cyN (fun i => tO g f n (sO g n i)) (mO g n)).length ≤ mO g n ∧ (cyN (tO g f n) (mO g n)).length ≤ mO g n := by
  have key : ∀ F, Prm F (mO g n) → (cyN F (mO g n)).length ≤ mO g n := fun F hF => by
    have := (cst_inv hF (inv2_id hF) (mO g n) (Nat.le_refl _)).len
    have e : (cyN F (mO g n)).length = (cst (uB F (fun i => i) (mO g n)) (mO g n)).2.length := by unfold cyN; rw [List.length_map]; rfl
    omega
  exact ⟨key _ h.ps, key _ h.ptu, key _ h.pt⟩
/-- Another numbering of the points: the same Euler characteristic. -/
theorem PAct.conj {g' f' p : Nat → Nat} (h : PAct g f n) (h' : PAct g' f' n) (hp : Prm p n) (op : ∀ j, j < n → ∃ i, i < n ∧ p i = j) (hg : ∀ i, i < n → g' (p i) = p (g i)) (hf : ∀ i, i < n → f' (p i) = p (f i)) : eulZ g f n = eulZ g' f' n := by
  have hψ : ∀ i, i < n → phO g' n (p i) < mO g' n := fun i hi => h'.quo.lt _ (hp.lt i hi)
  have oψ : ∀ j, j < mO g' n → ∃ i, i < n ∧ phO g' n (p i) = j := fun j hj => by
    obtain ⟨k, hk, e⟩ := h'.onto j hj
    obtain ⟨i, hi, e2⟩ := op k hk
    exact ⟨i, hi, by rw [e2]; exact e⟩
  have hz : ∀ i, i < n → zOf g' (p i) = p (zOf g i) := fun i hi => by show g' (g' (p i)) = p (g (g i)); rw [hg i hi, hg _ (h.gp.lt i hi)]
  have hiff : ∀ i j, i < n → j < n → (phO g n i = phO g n j ↔ phO g' n (p i) = phO g' n (p j)) := fun i j hi hj => by
    rw [h.quo.iff i j hi hj, h'.quo.iff _ _ (hp.lt i hi) (hp.lt j hj), hz i hi]
    constructor
    · rintro (e | e)
      · left; rw [e]
      · right; rw [e]
    · rintro (e | e)
      · left; exact hp.inj _ _ hj hi e
      · right; exact hp.inj _ _ hj (h.zl i hi) e
  have k := fun {F fa fb : Nat → Nat} {ca cb : Nat} (hF : ∀ i, i < n → F i < n) => quo_cls (F := F) (fa := fa) (fb := fb) (ca := ca) (cb := cb) h.quo.lt h.onto hψ oψ hiff hF
  have e0 := k (F := fun i => i) (fa := fun i => i) (fb := fun i => i) (fun i hi => hi) (fun i _ => rfl) (fun i _ => rfl) ⟨fun i hi => hi, fun i j _ _ e => e⟩ ⟨fun i hi => hi, fun i j _ _ e => e⟩ (cls_id _) (cls_id _)
  have e1 := k (F := g) (fun i hi => h.gp.lt i hi) h.ds (fun i hi => by rw [h'.ds _ (hp.lt i hi), hg i hi]) h.ps h'.ps (cyN_cls h.ps) (cyN_cls h'.ps)
  have e2 := k (F := f) (fun i hi => h.fp.lt i hi) h.dt (fun i hi => by rw [h'.dt _ (hp.lt i hi), hf i hi]) h.pt h'.pt (cyN_cls h.pt) (cyN_cls h'.pt)
  have e3 := k (F := fun i => f (g i)) (fa := fun i => tO g f n (sO g n i)) (fb := fun i => tO g' f' n (sO g' n i)) (fun i hi => h.fp.lt _ (h.gp.lt i hi)) (fun i hi => by show tO g f n (sO g n (phO g n i)) = _; rw [h.ds i hi, h.dt _ (h.gp.lt i hi)]) (fun i hi => by show tO g' f' n (sO g' n (phO g' n (p i))) = _; rw [h'.ds _ (hp.lt i hi), h'.dt _ (h'.gp.lt _ (hp.lt i hi)), hg i hi, hf _ (h.gp.lt i hi)]) h.ptu h'.ptu (cyN_cls h.ptu) (cyN_cls h'.ptu)
  unfold eulZ
  rw [e1, e2, e3, e0]
end
end Go.Proofs.Ytmikhkolbkdnpaa
