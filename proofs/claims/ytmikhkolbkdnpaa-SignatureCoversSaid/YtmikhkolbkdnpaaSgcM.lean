/- Plain mathematics: a map between actions that commutes with both steps (a covering): indexes, cycles, genera. -/
import Derived.Test.YtmikhkolbkdnpaaSigM
import Derived.Test.YtmikhkolbkdnpaaIwL
namespace Go.Proofs.Ytmikhkolbkdnpaa
set_option linter.unusedVariables false

theorem cntB_add_not (t : Nat → Bool) : ∀ n, cntB t n + cntB (fun i => !t i) n = n
  | 0 => rfl
  | n + 1 => by
    have h := cntB_add_not t n
    rw [cntB, cntB]
    cases e : t n <;> simp <;> omega
/-- A permutation of the points leaves a count as it is. -/
theorem cntB_prm {p : Nat → Nat} {n : Nat} (hp : Prm p n) (t : Nat → Bool) : cntB (fun i => t (p i)) n = cntB t n := by
  have key : ∀ u : Nat → Bool, cntB (fun i => u (p i)) n ≤ cntB u n := fun u => by
    rw [cntB_filter, cntB_filter]
    have hd : (((List.range n).filter fun i => u (p i)).map p).Nodup := nodup_map_on (List.nodup_range.filter _) fun x hx y hy e => by
      have h1 := List.mem_range.1 (List.mem_filter.1 hx).1
      have h2 := List.mem_range.1 (List.mem_filter.1 hy).1
      exact hp.inj x y h1 h2 e
    have := List.Nodup.length_le_of_subset (l₂ := (List.range n).filter u) hd fun y hy => by
      obtain ⟨x, hx, rfl⟩ := List.mem_map.1 hy
      obtain ⟨h1, h2⟩ := List.mem_filter.1 hx
      exact List.mem_filter.2 ⟨List.mem_range.2 (hp.lt x (List.mem_range.1 h1)), h2⟩
    simpa using this
  have h1 := key t
  have h2 := key fun i => !t i
  have h3 := cntB_add_not t n
  have h4 := cntB_add_not (fun i => t (p i)) n
  omega
theorem cntB_or {t u : Nat → Bool} : ∀ n, (∀ i, i < n → t i = true → u i = false) → cntB (fun i => t i || u i) n = cntB t n + cntB u n
  | 0, _ => rfl
  | n + 1, h => by
    have ih := cntB_or n fun i hi => h i (by omega)
    have hn := h n (by omega)
    rw [cntB, cntB, cntB, ih]
    cases e : t n <;> cases e2 : u n
    · simp
    · simp; omega
    · simp; omega
    · rw [hn e] at e2; cases e2
theorem cntB_false {t : Nat → Bool} : ∀ n, (∀ i, i < n → t i = false) → cntB t n = 0
  | 0, _ => rfl
  | n + 1, h => by rw [cntB, cntB_false n fun i hi => h i (by omega), h n (by omega)]; rfl
/-- How many points lie over y. -/
def fibN (ψ : Nat → Nat) (n y : Nat) : Nat := cntB (fun x => decide (ψ x = y)) n
theorem fib_sum {ψ : Nat → Nat} {m : Nat} : ∀ n, (∀ x, x < n → ψ x < m) → smB (fibN ψ n) m = n
  | 0, _ => smB_zero m fun _ _ => rfl
  | n + 1, h => by
    have ih := fib_sum n fun x hx => h x (by omega)
    have e : smB (fibN ψ (n + 1)) m = smB (fun y => fibN ψ n y + if y = ψ n then 1 else 0) m := smB_congr m fun y _ => by
      show cntB _ n + (if decide (ψ n = y) = true then 1 else 0) = _
      by_cases e : ψ n = y
      · subst e; simp [fibN]
      · rw [if_neg (by simpa using e), if_neg (fun e2 => e e2.symm)]; rfl
    rw [e, smB_add, ih, smB_one 1 (ψ n) m (h n (by omega))]
theorem smB_const {h : Nat → Nat} {d : Nat} : ∀ n, (∀ i, i < n → h i = d) → smB h n = n * d
  | 0, _ => by simp [smB]
  | n + 1, e => by rw [smB, smB_const n fun i hi => e i (by omega), e n (by omega), Nat.succ_mul]
/-- A map between actions that commutes with both steps. -/
structure Cov (g f : Nat → Nat) (n : Nat) (g' f' : Nat → Nat) (m : Nat) (ψ : Nat → Nat) : Prop where
  a : PAct g f n
  b : PAct g' f' m
  lt : ∀ x, x < n → ψ x < m
  cg : ∀ x, x < n → ψ (g x) = g' (ψ x)
  cf : ∀ x, x < n → ψ (f x) = f' (ψ x)
section
variable {g f g' f' ψ : Nat → Nat} {n m : Nat}
theorem fib_step {p q : Nat → Nat} (hp : Prm p n) (hq : Prm q m) (hl : ∀ x, x < n → ψ x < m) (hc : ∀ x, x < n → ψ (p x) = q (ψ x)) {y : Nat} (hy : y < m) : fibN ψ n (q y) = fibN ψ n y := by
  unfold fibN
  rw [← cntB_prm hp]
  refine cntB_congr n fun x hx => ?_
  rw [hc x hx, decide_eq_decide]
  exact ⟨fun e => hq.inj _ _ (hl x hx) hy e, fun e => by rw [e]⟩
theorem Cov.fib (h : Cov g f n g' f' m ψ) (y : Nat) (hy : y < m) : fibN ψ n y = fibN ψ n 0 :=
  h.b.full (fun y => fibN ψ n y = fibN ψ n 0) rfl (fun x hx e => by rw [fib_step h.a.gp h.b.gp h.lt h.cg hx, e]) (fun x hx e => by rw [fib_step h.a.fp h.b.fp h.lt h.cf hx, e]) y hy
theorem Cov.total (h : Cov g f n g' f' m ψ) : n = m * fibN ψ n 0 := by
  have h1 := fib_sum n h.lt
  rw [smB_const m h.fib] at h1
  exact h1.symm
theorem Cov.deg (h : Cov g f n g' f' m ψ) : 1 ≤ fibN ψ n 0 := by
  have h1 := h.total
  have h2 := h.a.pos
  rcases Nat.eq_zero_or_pos (fibN ψ n 0) with e | e
  · rw [e] at h1; omega
  · exact e
theorem fib_list {d : Nat} (hf : ∀ y, y < m → fibN ψ n y = d) : ∀ M : List Nat, M.Nodup → (∀ y ∈ M, y < m) → cntB (fun x => M.contains (ψ x)) n = M.length * d
  | [], _, _ => by rw [cntB_false (t := fun x => ([] : List Nat).contains (ψ x)) n fun i _ => rfl]; simp
  | a :: M, hd, hm => by
    rw [List.nodup_cons] at hd
    have e : cntB (fun x => (a :: M).contains (ψ x)) n = cntB (fun x => decide (ψ x = a) || M.contains (ψ x)) n := cntB_congr n fun x _ => by
      rw [List.contains_cons]; rfl
    rw [e, cntB_or n fun x _ h => ?_, fib_list hf M hd.2 fun y hy => hm y (by simp [hy])]
    · show fibN ψ n a + _ = _
      rw [hf a (hm a (by simp)), List.length_cons, Nat.succ_mul, Nat.add_comm]
    · have h : ψ x = a := of_decide_eq_true h
      rw [h]
      cases e2 : M.contains a with
      | false => rfl
      | true => exact absurd (List.contains_iff_mem.1 e2) hd.1
theorem itr_map {p q : Nat → Nat} (hp : Prm p n) (hc : ∀ x, x < n → ψ (p x) = q (ψ x)) {x : Nat} (hx : x < n) : ∀ k, ψ (itr p k x) = itr q k (ψ x)
  | 0 => rfl
  | k + 1 => by show ψ (p (itr p k x)) = q (itr q k (ψ x)); rw [hc _ (hp.itr_lt hx k), itr_map hp hc hx k]
/-- Over a cycle lie at most as many cycles as points over a point. -/
theorem cyc_le {p q : Nat → Nat} {c e d : Nat} (hp : Prm p n) (hq : Prm q m) (hl : ∀ x, x < n → ψ x < m) (hc : ∀ x, x < n → ψ (p x) = q (ψ x)) (hf : ∀ y, y < m → fibN ψ n y = d) (h : IsCls (onC p) n c) (h' : IsCls (onC q) m e) : c ≤ e * d := by
  obtain ⟨L, hL, rfl⟩ := h
  obtain ⟨M, hM, rfl⟩ := h'
  have key : ∀ x, ∃ y, x ∈ L → y < n ∧ onC p x y ∧ ψ y ∈ M := fun x => by
    by_cases hx : x ∈ L
    · have hxn := hL.lt x hx
      obtain ⟨y, hy, hr⟩ := hM.all (ψ x) (hl x hxn)
      obtain ⟨k, hk⟩ := onC_symm hq (hM.lt y hy) hr
      exact ⟨itr p k x, fun _ => ⟨hp.itr_lt hxn k, ⟨k, rfl⟩, by rw [itr_map hp hc hxn, hk]; exact hy⟩⟩
    · exact ⟨0, fun h => absurd h hx⟩
  have hg := fun x => Classical.choose_spec (key x)
  generalize hgd : (fun x => Classical.choose (key x)) = γ
  have hg : ∀ x, x ∈ L → γ x < n ∧ onC p x (γ x) ∧ ψ (γ x) ∈ M := fun x => by rw [← hgd]; exact hg x
  have hd : (L.map γ).Nodup := nodup_map_on hL.nd fun x hx y hy e => by
    have h1 := (hg x hx).2.1
    have h2 := (hg y hy).2.1
    rw [← e] at h2
    exact hL.one x hx y hy (onC_trans h1 (onC_symm hp (hL.lt y hy) h2))
  have hle := List.Nodup.length_le_of_subset (l₂ := (List.range n).filter fun x => M.contains (ψ x)) hd fun y hy => by
    obtain ⟨x, hx, rfl⟩ := List.mem_map.1 hy
    obtain ⟨h1, _, h3⟩ := hg x hx
    exact List.mem_filter.2 ⟨List.mem_range.2 h1, List.contains_iff_mem.2 h3⟩
  rw [← cntB_filter, fib_list hf M hM.nd hM.lt] at hle
  simpa using hle
/-- And over each lies one. -/
theorem cyc_ge {p q : Nat → Nat} {c e : Nat} (hp : Prm p n) (hq : Prm q m) (hc : ∀ x, x < n → ψ (p x) = q (ψ x)) (ho : ∀ y, y < m → ∃ x, x < n ∧ ψ x = y) (h : IsCls (onC p) n c) (h' : IsCls (onC q) m e) : e ≤ c := by
  obtain ⟨L, hL, rfl⟩ := h
  obtain ⟨M, hM, rfl⟩ := h'
  have key : ∀ j, ∃ i, j < m → i < n ∧ ψ i = j := fun j => by
    by_cases hj : j < m
    · obtain ⟨i, h⟩ := ho j hj
      exact ⟨i, fun _ => h⟩
    · exact ⟨0, fun h => absurd h hj⟩
  have hg := fun x => Classical.choose_spec (key x)
  generalize hgd : (fun x => Classical.choose (key x)) = σ
  have hg : ∀ j, j < m → σ j < n ∧ ψ (σ j) = j := fun x => by rw [← hgd]; exact hg x
  refine reps_le (onC_eqv hp) hM hL σ (fun j hj => (hg j hj).1) fun i j hi hj ⟨k, hk⟩ => ⟨k, ?_⟩
  have h1 := congrArg ψ hk
  rwa [itr_map hp hc (hg i hi).1, (hg i hi).2, (hg j hj).2] at h1
theorem Cov.onto (h : Cov g f n g' f' m ψ) (y : Nat) (hy : y < m) : ∃ x, x < n ∧ ψ x = y := by
  have h1 : 1 ≤ fibN ψ n y := by rw [h.fib y hy]; exact h.deg
  rw [fibN, cntB_filter] at h1
  obtain ⟨x, hx⟩ := List.exists_mem_of_length_pos h1
  obtain ⟨h2, h3⟩ := List.mem_filter.1 hx
  exact ⟨x, List.mem_range.1 h2, of_decide_eq_true h3⟩
/-- The map of the projective actions. -/
theorem Cov.proj (h : Cov g f n g' f' m ψ) : Cov (sO g n) (tO g f n) (mO g n) (sO g' m) (tO g' f' m) (mO g' m) (fun q => phO g' m (ψ (lsO g n q))) := by
  have hz : ∀ i, i < n → ψ (zOf g i) = zOf g' (ψ i) := fun i hi => by show ψ (g (g i)) = g' (g' (ψ i)); rw [h.cg _ (h.a.gp.lt i hi), h.cg i hi]
  have hq : ∀ i, i < n → phO g' m (ψ (lsO g n (phO g n i))) = phO g' m (ψ i) := fun i hi => by
    have l1 := h.a.quo.le _ (h.a.quo.lt i hi)
    rcases (h.a.quo.iff i _ hi l1).1 (h.a.quo.at_ _ (h.a.quo.lt i hi)).symm with e | e
    · rw [e]
    · rw [e, hz i hi]
      exact ((h.b.quo.iff _ _ (h.lt i hi) (h.b.zl _ (h.lt i hi))).2 (.inr rfl)).symm
  refine ⟨h.a.proj, h.b.proj, fun q hq => h.b.quo.lt _ (h.lt _ (h.a.quo.le q hq)), fun q hqm => ?_, fun q hqm => ?_⟩
  · obtain ⟨i, hi, rfl⟩ := h.a.onto q hqm
    show phO g' m (ψ (lsO g n (sO g n (phO g n i)))) = sO g' m (phO g' m (ψ (lsO g n (phO g n i))))
    rw [h.a.ds i hi, hq _ (h.a.gp.lt i hi), hq i hi, h.cg i hi, h.b.ds _ (h.lt i hi)]
  · obtain ⟨i, hi, rfl⟩ := h.a.onto q hqm
    show phO g' m (ψ (lsO g n (tO g f n (phO g n i)))) = tO g' f' m (phO g' m (ψ (lsO g n (phO g n i))))
    rw [h.a.dt i hi, hq _ (h.a.fp.lt i hi), hq i hi, h.cf i hi, h.b.dt _ (h.lt i hi)]
/-- What a map of actions says of the signatures. -/
structure CovS (g f : Nat → Nat) (n : Nat) (g' f' : Nat → Nat) (m d : Nat) : Prop where
  d1 : 1 ≤ d
  ix : mO g n = mO g' m * d
  s1 : (cyN (sO g n) (mO g n)).length ≤ (cyN (sO g' m) (mO g' m)).length * d
  s2 : (cyN (sO g' m) (mO g' m)).length ≤ (cyN (sO g n) (mO g n)).length
  t1 : (cyN (tO g f n) (mO g n)).length ≤ (cyN (tO g' f' m) (mO g' m)).length * d
  t2 : (cyN (tO g' f' m) (mO g' m)).length ≤ (cyN (tO g f n) (mO g n)).length
  u1 : (cyN (fun i => tO g f n (sO g n i)) (mO g n)).length ≤ (cyN (fun i => tO g' f' m (sO g' m i)) (mO g' m)).length * d
  u2 : (cyN (fun i => tO g' f' m (sO g' m i)) (mO g' m)).length ≤ (cyN (fun i => tO g f n (sO g n i)) (mO g n)).length
theorem Cov.sig (h : Cov g f n g' f' m ψ) : ∃ d, CovS g f n g' f' m d := by
  have hP := h.proj
  have cu : ∀ x, x < mO g n → (fun q => phO g' m (ψ (lsO g n q))) (tO g f n (sO g n x)) = tO g' f' m (sO g' m ((fun q => phO g' m (ψ (lsO g n q))) x)) := fun x hx => by
    exact (hP.cf _ (hP.a.gp.lt x hx)).trans (congrArg _ (hP.cg x hx))
  exact ⟨_, hP.deg, hP.total,
    cyc_le h.a.ps h.b.ps hP.lt hP.cg hP.fib (cyN_cls h.a.ps) (cyN_cls h.b.ps), cyc_ge h.a.ps h.b.ps hP.cg hP.onto (cyN_cls h.a.ps) (cyN_cls h.b.ps),
    cyc_le h.a.pt h.b.pt hP.lt hP.cf hP.fib (cyN_cls h.a.pt) (cyN_cls h.b.pt), cyc_ge h.a.pt h.b.pt hP.cf hP.onto (cyN_cls h.a.pt) (cyN_cls h.b.pt),
    cyc_le h.a.ptu h.b.ptu hP.lt cu hP.fib (cyN_cls h.a.ptu) (cyN_cls h.b.ptu), cyc_ge h.a.ptu h.b.ptu cu hP.onto (cyN_cls h.a.ptu) (cyN_cls h.b.ptu)⟩
theorem CovS.eul {d : Nat} (h : CovS g f n g' f' m d) : eulZ g f n ≤ eulZ g' f' m * (d : Int) := by
  have h1 := h.ix
  have h2 := h.s1
  have h3 := h.t1
  have h4 := h.u1
  unfold eulZ
  generalize (cyN (sO g n) (mO g n)).length = a at *
  generalize (cyN (tO g f n) (mO g n)).length = b at *
  generalize (cyN (fun i => tO g f n (sO g n i)) (mO g n)).length = c at *
  generalize (cyN (sO g' m) (mO g' m)).length = a' at *
  generalize (cyN (tO g' f' m) (mO g' m)).length = b' at *
  generalize (cyN (fun i => tO g' f' m (sO g' m i)) (mO g' m)).length = c' at *
  generalize mO g n = x at *
  generalize mO g' m = y at *
  rw [Int.sub_mul, Int.add_mul, Int.add_mul]
  have e1 : ((a' * d : Nat) : Int) = (a' : Int) * d := Int.natCast_mul _ _
  have e2 : ((b' * d : Nat) : Int) = (b' : Int) * d := Int.natCast_mul _ _
  have e3 : ((c' * d : Nat) : Int) = (c' : Int) * d := Int.natCast_mul _ _
  have e4 : ((y * d : Nat) : Int) = (y : Int) * d := Int.natCast_mul _ _
  omega
theorem CovS.genus {d : Nat} (h : CovS g f n g' f' m d) (ha : PAct g f n) (hb : PAct g' f' m) (za : Inv2 f (fun i => g (g i)) n) (zb : Inv2 f' (fun i => g' (g' i)) m) (a3 : ∀ i, i < n → f (g (f (g (f (g i))))) = g (g i)) (b3 : ∀ i, i < m → f' (g' (f' (g' (f' (g' i))))) = g' (g' i)) : gnZ g' f' m ≤ gnZ g f n := by
  obtain ⟨h1, h2, _⟩ := ha.genus za a3
  obtain ⟨h3, h4, _⟩ := hb.genus zb b3
  have h5 := h.eul
  have h6 := h.d1
  rcases Int.lt_or_le 0 (gnZ g' f' m) with e | e
  · have : eulZ g' f' m * (d : Int) ≤ eulZ g' f' m * 1 := Int.mul_le_mul_of_nonpos_left (by omega) (by omega)
    omega
  · omega
/-- A group whose orbit with another one is no longer than its own points lies within it: the points map. -/
theorem two_cover (h : PAct g f n) (h' : PAct g' f' m) (hle : orbN (eG g g' m) (eG f f' m) (n * m) 0 ≤ n) : ∃ φ, φ 0 = 0 ∧ Cov g f n g' f' m φ := by
  have hG := eG_prm h.gp h'.gp
  have hF := eG_prm h.fp h'.fp
  have h0 : 0 < n * m := Nat.mul_pos h.pos h'.pos
  have hcl := fun x (hx : x ∈ bst (eG g g' m) (eG f f' m) 0 (n * m)) => bst_closed hG hF h0 hx
  have hlt := fun x (hx : x ∈ bst (eG g g' m) (eG f f' m) 0 (n * m)) => bst_lt hG hF h0 (n * m) x hx
  have hnd := bst_nodup (eG g g' m) (eG f f' m) 0 (n * m)
  have hz : 0 ∈ bst (eG g g' m) (eG f f' m) 0 (n * m) := by
    have := orb_mem (g := eG g g' m) (f := eG f f' m) (n := n * m) (i := 0) 0 orb_pos
    rwa [orb_first] at this
  unfold orbN at hle
  generalize bst (eG g g' m) (eG f f' m) 0 (n * m) = O at *
  have hon : ∀ x, x < n → ∃ p ∈ O, p / m = x := h.full (fun x => ∃ p ∈ O, p / m = x) ⟨0, hz, Nat.zero_div m⟩
    (fun x _ ⟨p, hp, e⟩ => ⟨_, (hcl p hp).1, by rw [eG_fst h'.gp (hlt p hp), e]⟩) (fun x _ ⟨p, hp, e⟩ => ⟨_, (hcl p hp).2, by rw [eG_fst h'.fp (hlt p hp), e]⟩)
  have hinj : ∀ p ∈ O, ∀ q ∈ O, p / m = q / m → p = q := fun p hp q hq e => by
    by_cases hne : p = q
    · exact hne
    · exfalso
      have h1 := List.Nodup.length_le_of_subset (l₁ := List.range n) (l₂ := (O.erase p).map (· / m)) List.nodup_range fun x hx => by
        obtain ⟨r, hr, e2⟩ := hon x (List.mem_range.1 hx)
        by_cases hrp : r = p
        · exact List.mem_map.2 ⟨q, hnd.mem_erase_iff.2 ⟨fun e3 => hne e3.symm, hq⟩, by show q / m = x; rw [← e, ← hrp, e2]⟩
        · exact List.mem_map.2 ⟨r, hnd.mem_erase_iff.2 ⟨hrp, hr⟩, e2⟩
      have h2 := List.length_erase_of_mem hp
      have h3 := List.length_pos_of_mem hp
      simp at h1
      omega
  have key : ∀ x, ∃ p, x < n → p ∈ O ∧ p / m = x := fun x => by
    by_cases hx : x < n
    · obtain ⟨p, h1, h2⟩ := hon x hx
      exact ⟨p, fun _ => ⟨h1, h2⟩⟩
    · exact ⟨0, fun h => absurd h hx⟩
  have hg := fun x => Classical.choose_spec (key x)
  generalize hgd : (fun x => Classical.choose (key x)) = π
  have hg : ∀ x, x < n → π x ∈ O ∧ π x / m = x := fun x => by rw [← hgd]; exact hg x
  refine ⟨fun x => π x % m, ?_, h, h', fun x hx => Nat.mod_lt _ h'.pos, fun x hx => ?_, fun x hx => ?_⟩
  · obtain ⟨h1, h2⟩ := hg 0 h.pos
    have : π 0 = 0 := hinj _ h1 _ hz (by rw [h2, Nat.zero_div])
    show π 0 % m = 0
    rw [this, Nat.zero_mod]
  · obtain ⟨h1, h2⟩ := hg x hx
    obtain ⟨h3, h4⟩ := hg (g x) (h.gp.lt x hx)
    have : π (g x) = eG g g' m (π x) := hinj _ h3 _ (hcl _ h1).1 (by rw [h4, eG_fst h'.gp (hlt _ h1), h2])
    show π (g x) % m = g' (π x % m)
    rw [this, eG_snd h'.gp (hlt _ h1)]
  · obtain ⟨h1, h2⟩ := hg x hx
    obtain ⟨h3, h4⟩ := hg (f x) (h.fp.lt x hx)
    have : π (f x) = eG f f' m (π x) := hinj _ h3 _ (hcl _ h1).2 (by rw [h4, eG_fst h'.fp (hlt _ h1), h2])
    show π (f x) % m = f' (π x % m)
    rw [this, eG_snd h'.fp (hlt _ h1)]
end
end Go.Proofs.Ytmikhkolbkdnpaa
