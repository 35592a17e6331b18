/- The contract of the reference's Has, for all groups and all matrices. Plain mathematics of the reference's Of: two matrices lie in one coset if and only if x y^-1, reckoned modulo n, is in the group. ref23.mod: a matrix modulo n. Plain mathematics of the reference's Representatives: what it writes down is the search's list. SubgroupMembers answers true for all arguments. SubgroupRepresents answers true for all arguments. The world within the reference's Of: the group, the result, the action's box with its two rows, the list of matrices, the box of the matrix at hand. The contract of the reference's Of: the search, found again. The contract of the reference's Representatives. SubgroupActions answers true for all arguments. -/
import Derived.Test.YtilfkppapimocaaGrpL
import Derived.Test.YtilfkppapimocaaWdP
import Derived.Test.YtilfkppapimocaaSgX
import Derived.Test.YtilfkppapimocaaSgI
import Derived.Test.YtilfkppapimocaaLawK
import Derived.Test.YtilfkppapimocaaBoxL
import Derived.Test.YtilfkppapimocaaMvP
import Derived.Test.YtilfkppapimocaaHasK
import Derived.Test.YtilfkppapimocaaSrP
import Derived.Test.YtilfkppapimocaaHeadT
import Derived.Test.YtilfkppapimocaaSm22L
import Derived.Deep.DeepCutAuto
import Derived.Deep.CutBlock
import Derived.Deep.RegionHeld3
import Derived.Deep.QuietTactic
import Derived.BigRegion
import Derived.IntWalk
import Derived.Laws.MakeOwn
import Derived.Deep.OwnRows
namespace Go.Proofs.Ytilfkppapimocaa
open Go.RowKit
set_option linter.unusedVariables false
set_option linter.unusedSimpArgs false

set_option maxHeartbeats 3200000 in
set_option maxRecDepth 1000000 in
theorem rholds_any (k n a b c d : Int) (w : World) (hkk : 1 ≤ k ∧ k ≤ 4) (n1 : 1 ≤ n) (n2 : n ≤ 120) (hf : fitB a b c d = true) : Calls Try.prog 37 #[.agg #[.int .i64 k, .int .i64 n], .agg #[.int .i64 a, .int .i64 b, .int .i64 c, .int .i64 d]] w fun e w' => e = .returned (.bool (hasV k n a b c d)) ∧ Below w.heap.size w w' := by
  obtain ⟨⟨a1, a2⟩, ⟨b1, b2⟩, ⟨c1, c2⟩, ⟨e1, e2⟩⟩ := fitB_iff.1 hf
  clear hf
  have hn0 : ¬ n = 0 := by omega
  rcases four_kinds hkk with rfl | rfl | rfl | rfl
  all_goals clear hkk
  · skip
    by_cases h1 : (a - 1).tmod n = 0 <;> by_cases h3 : c.tmod n = 0
    all_goals
      generalize hv : hasV 1 n a b c d = v
      simp [hasV, h1, h3] at hv
      subst hv
      go_enter Try.func37, Try.ntmps37
      go_wp2
      refine bodyPost_ret ?_ rfl ⟨rfl, below2 _ _ _⟩
      simp [results, Try.results37, go_sem, *]
  · skip
    by_cases h1 : (a - 1).tmod n = 0 <;> by_cases h2 : (d - 1).tmod n = 0 <;> by_cases h3 : c.tmod n = 0
    all_goals
      generalize hv : hasV 2 n a b c d = v
      simp [hasV, h1, h2, h3] at hv
      subst hv
      go_enter Try.func37, Try.ntmps37
      go_wp2
      refine bodyPost_ret ?_ rfl ⟨rfl, below2 _ _ _⟩
      simp [results, Try.results37, go_sem, *]
  · skip
    by_cases h1 : (a - 1).tmod n = 0 <;> by_cases h2 : (d - 1).tmod n = 0 <;> by_cases h3 : c.tmod n = 0 <;> by_cases h4 : b.tmod n = 0
    all_goals
      generalize hv : hasV 3 n a b c d = v
      simp [hasV, h1, h2, h3, h4] at hv
      subst hv
      go_enter Try.func37, Try.ntmps37
      go_wp2
      refine bodyPost_ret ?_ rfl ⟨rfl, below2 _ _ _⟩
      simp [results, Try.results37, go_sem, *]
  · skip
    by_cases h1 : (a - 1).tmod n = 0 <;> by_cases h4 : b.tmod n = 0
    all_goals
      generalize hv : hasV 4 n a b c d = v
      simp [hasV, h1, h4] at hv
      subst hv
      go_enter Try.func37, Try.ntmps37
      go_wp2
      refine bodyPost_ret ?_ rfl ⟨rfl, below2 _ _ _⟩
      simp [results, Try.results37, go_sem, *]
set_option maxHeartbeats 6400000 in
set_option maxRecDepth 1000000 in
theorem rhas_any (k n a b c d : Int) (w : World) : Calls Try.prog 14 #[.agg #[.int .i64 k, .int .i64 n], .agg #[.int .i64 a, .int .i64 b, .int .i64 c, .int .i64 d]] w fun e w' => e = .returned (.tuple #[.bool (hasR k n a b c d), .int .i64 (hasE k n a b c d)]) ∧ Below w.heap.size w w' := by
  have HC := Lib.hid (fun W => rgcheck_any k n W)
  have HK := Lib.hid (fun W => rcheck_any a b c d W)
  by_cases hg : gckI k n = 0
  case neg =>
    rw [show hasE k n a b c d = gckI k n from if_neg hg, show hasR k n a b c d = false from by unfold hasR; rw [show hasE k n a b c d = gckI k n from if_neg hg, if_neg hg]]
    generalize gckI k n = z at *
    go_enter Try.func14, Try.ntmps14
    go_wp2_with (first
      | (go_at_call 16; ((with_reducible refine (HC.out _).mono ?_); rintro e w1 ⟨rfl, hb⟩; have T : Hid (w1.heap[w.heap.size]? = some (.cells #[.int .i64 k, .int .i64 n] 24 (0, 0))) := block_below (block_alloc (heap_alloc_new w _) _) hb; have U : Hid (w1.heap[w.heap.size + 1]? = some (.cells #[.int .i64 a, .int .i64 b, .int .i64 c, .int .i64 d] 26 (0, 0))) := block_below (by have := heap_alloc_new (w.alloc (.cells #[.int .i64 k, .int .i64 n] 24)) (.cells #[.int .i64 a, .int .i64 b, .int .i64 c, .int .i64 d] 26); simpa using this) hb; have HB1 : Hid (Below w.heap.size w w1) := (below2 w _ _).trans (hb.mono (by simp; omega)); obtain ⟨⟨u1, u2, u3, u4⟩, _⟩ := four_of_block U.out; obtain ⟨⟨t1, t2⟩, _⟩ := two_of_block T.out; clear hb))
      | (go_at_call 36; ((with_reducible refine (HK.out _).mono ?_); rintro e w2 ⟨rfl, hb⟩; have T2 := Lib.hid (block_below T.out hb); have U2 := Lib.hid (block_below U.out hb); have HB2 : Hid (Below w.heap.size w w2) := HB1.out.trans (hb.mono HB1.out.size); clear u1 u2 u3 u4 t1 t2; obtain ⟨⟨u1, u2, u3, u4⟩, _⟩ := four_of_block U2.out; obtain ⟨⟨t1, t2⟩, _⟩ := two_of_block T2.out; clear hb))
      | fail)
    refine bodyPost_ret (v := .tuple #[.bool false, .int .i64 z]) ?_ rfl ⟨rfl, HB1.out⟩
    simp [results, Try.results14, go_sem, *]
  have hE : hasE k n a b c d = chkI a b c d := if_pos hg
  by_cases hk : chkI a b c d = 0
  case neg =>
    rw [show hasR k n a b c d = false from by unfold hasR; rw [hE, if_neg hk], hE]
    rw [hg] at HC
    clear hE hg
    generalize chkI a b c d = z at *
    go_enter Try.func14, Try.ntmps14
    go_wp2_with (first
      | (go_at_call 16; ((with_reducible refine (HC.out _).mono ?_); rintro e w1 ⟨rfl, hb⟩; have T : Hid (w1.heap[w.heap.size]? = some (.cells #[.int .i64 k, .int .i64 n] 24 (0, 0))) := block_below (block_alloc (heap_alloc_new w _) _) hb; have U : Hid (w1.heap[w.heap.size + 1]? = some (.cells #[.int .i64 a, .int .i64 b, .int .i64 c, .int .i64 d] 26 (0, 0))) := block_below (by have := heap_alloc_new (w.alloc (.cells #[.int .i64 k, .int .i64 n] 24)) (.cells #[.int .i64 a, .int .i64 b, .int .i64 c, .int .i64 d] 26); simpa using this) hb; have HB1 : Hid (Below w.heap.size w w1) := (below2 w _ _).trans (hb.mono (by simp; omega)); obtain ⟨⟨u1, u2, u3, u4⟩, _⟩ := four_of_block U.out; obtain ⟨⟨t1, t2⟩, _⟩ := two_of_block T.out; clear hb))
      | (go_at_call 36; ((with_reducible refine (HK.out _).mono ?_); rintro e w2 ⟨rfl, hb⟩; have T2 := Lib.hid (block_below T.out hb); have U2 := Lib.hid (block_below U.out hb); have HB2 : Hid (Below w.heap.size w w2) := HB1.out.trans (hb.mono HB1.out.size); clear u1 u2 u3 u4 t1 t2; obtain ⟨⟨u1, u2, u3, u4⟩, _⟩ := four_of_block U2.out; obtain ⟨⟨t1, t2⟩, _⟩ := two_of_block T2.out; clear hb))
      | fail)
    refine bodyPost_ret (v := .tuple #[.bool false, .int .i64 z]) ?_ rfl ⟨rfl, HB2.out⟩
    simp [results, Try.results14, go_sem, *]
  rw [show hasR k n a b c d = hasV k n a b c d from by unfold hasR; rw [hE, if_pos hk], hE, hk]
  rw [hk] at HK
  obtain ⟨hkk, ⟨n1, n2⟩⟩ : (1 ≤ k ∧ k ≤ 4) ∧ (1 ≤ n ∧ n ≤ 120) := by
    rcases gck_cases k n with ⟨_, e⟩ | ⟨_, _, e⟩ | ⟨h, h2, _⟩
    · rw [hg] at e; exact absurd e (by decide)
    · rw [hg] at e; exact absurd e (by decide)
    · exact ⟨h, h2⟩
  have hfit : fitB a b c d = true := by
    rcases chk_cases a b c d with ⟨_, e⟩ | ⟨h, _, _⟩ | ⟨_, _, e⟩
    · rw [hk] at e; exact absurd e (by decide)
    · exact h
    · rw [hk] at e; exact absurd e (by decide)
  rw [hg] at HC
  have HH := Lib.hid (fun W => rholds_any k n a b c d W hkk n1 n2 hfit)
  clear hE hk hg hfit
  generalize hasV k n a b c d = v at *
  go_enter Try.func14, Try.ntmps14
  go_wp2_with (first
    | (go_at_call 16; ((with_reducible refine (HC.out _).mono ?_); rintro e w1 ⟨rfl, hb⟩; have T : Hid (w1.heap[w.heap.size]? = some (.cells #[.int .i64 k, .int .i64 n] 24 (0, 0))) := block_below (block_alloc (heap_alloc_new w _) _) hb; have U : Hid (w1.heap[w.heap.size + 1]? = some (.cells #[.int .i64 a, .int .i64 b, .int .i64 c, .int .i64 d] 26 (0, 0))) := block_below (by have := heap_alloc_new (w.alloc (.cells #[.int .i64 k, .int .i64 n] 24)) (.cells #[.int .i64 a, .int .i64 b, .int .i64 c, .int .i64 d] 26); simpa using this) hb; have HB1 : Hid (Below w.heap.size w w1) := (below2 w _ _).trans (hb.mono (by simp; omega)); obtain ⟨⟨u1, u2, u3, u4⟩, _⟩ := four_of_block U.out; obtain ⟨⟨t1, t2⟩, _⟩ := two_of_block T.out; clear hb))
    | (go_at_call 36; ((with_reducible refine (HK.out _).mono ?_); rintro e w2 ⟨rfl, hb⟩; have T2 := Lib.hid (block_below T.out hb); have U2 := Lib.hid (block_below U.out hb); have HB2 : Hid (Below w.heap.size w w2) := HB1.out.trans (hb.mono HB1.out.size); clear u1 u2 u3 u4 t1 t2; obtain ⟨⟨u1, u2, u3, u4⟩, _⟩ := four_of_block U2.out; obtain ⟨⟨t1, t2⟩, _⟩ := two_of_block T2.out; clear hb))
    | (go_at_call 37; ((with_reducible refine (HH.out _).mono ?_); rintro e w3 ⟨rfl, hb⟩; have HB3 : Hid (Below w.heap.size w w3) := HB2.out.trans (hb.mono HB2.out.size); clear hb))
    | fail)
  refine bodyPost_ret (v := .tuple #[.bool v, .int .i64 0]) ?_ rfl ⟨rfl, HB3.out⟩
  simp [results, Try.results14, go_sem, *]
end Go.Proofs.Ytilfkppapimocaa
namespace Go.Proofs.Ytilfkppapimocaa
set_option linter.unusedVariables false

def mulM (x y : M4) : M4 := (x.1 * y.1 + x.2.1 * y.2.2.1, x.1 * y.2.1 + x.2.1 * y.2.2.2, x.2.2.1 * y.1 + x.2.2.2 * y.2.2.1, x.2.2.1 * y.2.1 + x.2.2.2 * y.2.2.2)
def bckM (x : M4) : M4 := (x.2.2.2, -x.2.1, -x.2.2.1, x.1)
theorem mulM_S (x g : M4) : mulM x (mS g) = mS (mulM x g) := by
  obtain ⟨a, b, c, d⟩ := x; obtain ⟨p, q, r, s⟩ := g
  simp only [mulM, mS, Prod.mk.injEq]; grind
theorem mulM_T (x g : M4) : mulM x (mT g) = mT (mulM x g) := by
  obtain ⟨a, b, c, d⟩ := x; obtain ⟨p, q, r, s⟩ := g
  simp only [mulM, mT, Prod.mk.injEq]; grind
theorem mulM_U (x g : M4) : mulM x (mU g) = mU (mulM x g) := by
  obtain ⟨a, b, c, d⟩ := x; obtain ⟨p, q, r, s⟩ := g
  simp only [mulM, mU, Prod.mk.injEq]; grind
theorem mulM_one (x : M4) : mulM x (1, 0, 0, 1) = x := by
  obtain ⟨a, b, c, d⟩ := x
  simp [mulM]
theorem mulM_dt {x y : M4} (hx : dtM x = 1) (hy : dtM y = 1) : dtM (mulM x y) = 1 := by
  obtain ⟨a, b, c, d⟩ := x; obtain ⟨p, q, r, s⟩ := y
  simp only [dtM, mulM] at *; grind
theorem mulM_bck {x : M4} (hx : dtM x = 1) : mulM x (bckM x) = (1, 0, 0, 1) := by
  obtain ⟨a, b, c, d⟩ := x
  simp only [dtM, mulM, bckM, Prod.mk.injEq] at *; grind
theorem bck_dt {x : M4} (hx : dtM x = 1) : dtM (bckM x) = 1 := by
  obtain ⟨a, b, c, d⟩ := x
  simp only [dtM, bckM] at *; grind
theorem co_mul {co : M4 → K4} (h : Cos co) {g : M4} (hg : dtM g = 1) : ∀ x y, dtM x = 1 → dtM y = 1 → (co x = co y ↔ co (mulM x g) = co (mulM y g)) := by
  refine (fun P : dtM g = 1 ∧ (∀ x y, dtM x = 1 → dtM y = 1 → (co x = co y ↔ co (mulM x g) = co (mulM y g))) => P.2) ?_
  refine sl_ind (P := fun g => dtM g = 1 ∧ ∀ x y, dtM x = 1 → dtM y = 1 → (co x = co y ↔ co (mulM x g) = co (mulM y g))) ⟨rfl, fun x y _ _ => by rw [mulM_one, mulM_one]⟩ (fun g hg P => ⟨by rw [dtM_S]; exact hg, fun x y hx hy => ?_⟩) (fun g hg P => ⟨by rw [dtM_T]; exact hg, fun x y hx hy => ?_⟩) (fun g hg P => ⟨by rw [dtM_U]; exact hg, fun x y hx hy => ?_⟩) _ g (Nat.le_refl _) hg
  · rw [P.2 x y hx hy, mulM_S, mulM_S]
    exact ⟨h.s _ _ (mulM_dt hx hg) (mulM_dt hy hg), h.si (mulM_dt hx hg) (mulM_dt hy hg)⟩
  · rw [P.2 x y hx hy, mulM_T, mulM_T]
    exact ⟨h.t _ _ (mulM_dt hx hg) (mulM_dt hy hg), h.u _ _ (mulM_dt hx hg) (mulM_dt hy hg)⟩
  · rw [P.2 x y hx hy, mulM_U, mulM_U]
    have d1 : dtM (mU (mulM x g)) = 1 := by rw [dtM_U]; exact mulM_dt hx hg
    have d2 : dtM (mU (mulM y g)) = 1 := by rw [dtM_U]; exact mulM_dt hy hg
    constructor
    · intro e
      exact h.u _ _ d1 d2 (by rw [mTU, mTU]; exact e)
    · intro e
      have := h.t _ _ d1 d2 e
      rwa [mTU, mTU] at this
theorem co_inv {co : M4 → K4} (h : Cos co) {x y : M4} (hx : dtM x = 1) (hy : dtM y = 1) : co x = co y ↔ co (mulM x (bckM y)) = co (1, 0, 0, 1) := by
  rw [co_mul h (bck_dt hy) x y hx hy, mulM_bck hy]
theorem tmz {x n : Int} : (x.tmod n == 0) = decide (n ∣ x) := by
  by_cases h : n ∣ x
  · rw [decide_eq_true h, beq_iff_eq]; exact Int.tmod_eq_zero_of_dvd h
  · rw [decide_eq_false h]
    exact beq_eq_false_iff_ne.2 fun e => h (Int.dvd_of_tmod_eq_zero e)
theorem tmz_of {x y n : Int} (h : n ∣ x - y) : (x.tmod n == 0) = (y.tmod n == 0) := by
  rw [tmz, tmz]
  obtain ⟨k, hk⟩ := h
  refine decide_eq_decide.2 ⟨fun ⟨q, hq⟩ => ⟨q - k, by grind⟩, fun ⟨q, hq⟩ => ⟨q + k, by grind⟩⟩
theorem has_cong {k n a b c d a' b' c' d' : Int} (ha : n ∣ a - a') (hb : n ∣ b - b') (hc : n ∣ c - c') (hd : n ∣ d - d') : hasV k n a b c d = hasV k n a' b' c' d' := by
  unfold hasV
  rw [tmz_of hc, tmz_of hb, tmz_of (show n ∣ (a - 1) - (a' - 1) by obtain ⟨q, hq⟩ := ha; exact ⟨q, by omega⟩), tmz_of (show n ∣ (d - 1) - (d' - 1) by obtain ⟨q, hq⟩ := hd; exact ⟨q, by omega⟩)]
/-- A matrix modulo n. -/
def mdM (n : Int) (x : M4) : M4 := (x.1 % n, x.2.1 % n, x.2.2.1 % n, x.2.2.2 % n)
theorem md_dvd (n x : Int) : n ∣ x % n - x := by
  have := Int.emod_add_mul_ediv x n
  exact ⟨-(x / n), by grind⟩
def hasM (k n : Int) (x : M4) : Bool := hasV k n x.1 x.2.1 x.2.2.1 x.2.2.2
theorem hasM_md {k n : Int} (x y : M4) : hasM k n (mulM (mdM n x) (bckM (mdM n y))) = hasM k n (mulM x (bckM y)) := by
  obtain ⟨a, b, c, d⟩ := x; obtain ⟨p, q, r, s⟩ := y
  obtain ⟨a', ha⟩ := md_dvd n a; obtain ⟨b', hb⟩ := md_dvd n b; obtain ⟨c', hc⟩ := md_dvd n c; obtain ⟨d', hd⟩ := md_dvd n d
  obtain ⟨p', hp⟩ := md_dvd n p; obtain ⟨q', hq⟩ := md_dvd n q; obtain ⟨r', hr⟩ := md_dvd n r; obtain ⟨s', hs⟩ := md_dvd n s
  have ea : a % n = a + n * a' := by omega
  have eb : b % n = b + n * b' := by omega
  have ec : c % n = c + n * c' := by omega
  have ed : d % n = d + n * d' := by omega
  have ep : p % n = p + n * p' := by omega
  have eq : q % n = q + n * q' := by omega
  have er : r % n = r + n * r' := by omega
  have es : s % n = s + n * s' := by omega
  unfold hasM mulM bckM mdM
  simp only
  rw [ea, eb, ec, ed, ep, eq, er, es]
  refine has_cong ?_ ?_ ?_ ?_
  · exact ⟨a' * s + a * s' + n * a' * s' - b' * r - b * r' - n * b' * r', by grind⟩
  · exact ⟨-a' * q - a * q' - n * a' * q' + b' * p + b * p' + n * b' * p', by grind⟩
  · exact ⟨c' * s + c * s' + n * c' * s' - d' * r - d * r' - n * d' * r', by grind⟩
  · exact ⟨-c' * q - c * q' - n * c' * q' + d' * p + d * p' + n * d' * p', by grind⟩
theorem same_has {k n : Int} (hk : 1 ≤ k ∧ k ≤ 4) (n1 : 1 ≤ n) (hC : Cos (kco k n)) {x y : M4} (hx : dtM x = 1) (hy : dtM y = 1) : kco k n x = kco k n y ↔ hasM k n (mulM (mdM n x) (bckM (mdM n y))) = true := by
  rw [co_inv hC hx hy, hasM_md]
  have hd := mulM_dt hx (bck_dt hy)
  generalize mulM x (bckM y) = z at *
  obtain ⟨a, b, c, d⟩ := z
  exact kco_has hk n1 hd
/-- Where the reference finds a matrix in its list: the first place of its coset. -/
theorem find_has {k n : Int} (hk : 1 ≤ k ∧ k ≤ 4) (n1 : 1 ≤ n) (hC : Cos (kco k n)) {x : M4} (hx : dtM x = 1) : ∀ L : List M4, (∀ y ∈ L, dtM y = 1) → (L.map (mdM n)).findIdx (fun y => hasM k n (mulM (mdM n x) (bckM y))) = (L.map (kco k n)).idxOf (kco k n x) := by
  intro L
  induction L with
  | nil => intro _; rfl
  | cons y L ih =>
    intro hL
    have hy := hL y List.mem_cons_self
    have e : hasM k n (mulM (mdM n x) (bckM (mdM n y))) = (kco k n y == kco k n x) := by
      have := same_has hk n1 hC hx hy
      by_cases h : kco k n x = kco k n y
      · rw [this.1 h, h]; simp
      · have h1 : hasM k n (mulM (mdM n x) (bckM (mdM n y))) = false := by
          cases hb : hasM k n (mulM (mdM n x) (bckM (mdM n y)))
          · rfl
          · exact absurd (this.2 hb) h
        rw [h1]; exact (beq_eq_false_iff_ne.2 fun e => h e.symm).symm
    rw [List.map_cons, List.map_cons, List.findIdx_cons, List.idxOf_cons, e, ih fun z hz => hL z (List.mem_cons_of_mem _ hz)]
theorem md_S (n : Int) (x : M4) : mdM n (mS (mdM n x)) = mdM n (mS x) := by
  obtain ⟨a, b, c, d⟩ := x
  have neg : ∀ z : Int, -(z % n) % n = -z % n := fun z => mod_iff.2 (by obtain ⟨q, hq⟩ := md_dvd n z; exact ⟨-q, by grind⟩)
  show (b % n % n, -(a % n) % n, d % n % n, -(c % n) % n) = (b % n, -a % n, d % n, -c % n)
  rw [neg a, neg c, Int.emod_emod_of_dvd _ (Int.dvd_refl n), Int.emod_emod_of_dvd _ (Int.dvd_refl n)]
theorem md_T (n : Int) (x : M4) : mdM n (mT (mdM n x)) = mdM n (mT x) := by
  obtain ⟨a, b, c, d⟩ := x
  simp [mdM, mT]
/-- The place that the reference finds for a reduced matrix. -/
def atR (k n : Int) (R : List M4) (t : M4) : Nat := R.findIdx fun y => hasM k n (mulM t (bckM y))
/-- What becomes of the reference's list. -/
def nxR (k n : Int) (R : List M4) (t : M4) : List M4 := if atR k n R t = R.length then R ++ [t] else R
theorem find_vl {k n : Int} (hk : 1 ≤ k ∧ k ≤ 4) (n1 : 1 ≤ n) (hC : Cos (kco k n)) {x : M4} (hx : dtM x = 1) (L : List M4) (hL : ∀ y ∈ L, dtM y = 1) :
    nxR k n (L.map (mdM n)) (mdM n x) = (vl (kco k n) L x).map (mdM n) ∧ atR k n (L.map (mdM n)) (mdM n x) = ((vl (kco k n) L x).map (kco k n)).idxOf (kco k n x) := by
  have hf : atR k n (L.map (mdM n)) (mdM n x) = (L.map (kco k n)).idxOf (kco k n x) := find_has hk n1 hC hx L hL
  unfold nxR
  rw [hf, List.length_map]
  unfold vl
  by_cases h : (L.map (kco k n)).contains (kco k n x) = true
  · have hm : kco k n x ∈ L.map (kco k n) := by simpa using h
    have hl := List.idxOf_lt_length_iff.2 hm
    rw [List.length_map] at hl
    rw [if_pos h, if_neg (by omega)]
    exact ⟨rfl, rfl⟩
  · have hm : kco k n x ∉ L.map (kco k n) := by simpa using h
    have hl : (L.map (kco k n)).idxOf (kco k n x) = L.length := by rw [List.idxOf_eq_length hm, List.length_map]
    rw [if_neg h, if_pos hl]
    refine ⟨by simp, ?_⟩
    rw [hl, List.map_append, List.idxOf_append, if_neg hm, List.length_map]
    simp
/-- The reference's search behind i rounds: its list, and what it has written down. -/
structure RfI (k n : Int) (i : Nat) (R : List M4) (S T : List Nat) : Prop where
  r : R = (srun (kco k n) i).L.map (mdM n)
  s : S = (srun (kco k n) i).S
  t : T = (srun (kco k n) i).T
theorem RfI.zero (k n : Int) : RfI k n 0 [mdM n (1, 0, 0, 1)] [] [] := ⟨rfl, rfl, rfl⟩
theorem RfI.get {k n : Int} {i : Nat} {R : List M4} {S T : List Nat} (h : RfI k n i R S T) {j : Nat} (hj : j < R.length) : R.getD j (0, 0, 0, 0) = mdM n ((srun (kco k n) i).L.getD j (0, 0, 0, 0)) := by
  have hr := h.r
  subst hr
  have hj' : j < (srun (kco k n) i).L.length := by simpa using hj
  simp [List.getD_eq_getElem?_getD, hj']
/-- A round. -/
theorem RfI.step {k n : Int} {N i : Nat} {R : List M4} {S T : List Nat} (hk : 1 ≤ k ∧ k ≤ 4) (n1 : 1 ≤ n) (hC : Cos (kco k n)) (hF : SFin (kco k n) N) (hi : i < N) (h : RfI k n i R S T) :
    i < R.length ∧ RfI k n (i + 1) (nxR k n (nxR k n R (mdM n (mS (R.getD i (0, 0, 0, 0))))) (mdM n (mT (R.getD i (0, 0, 0, 0))))) (S ++ [atR k n R (mdM n (mS (R.getD i (0, 0, 0, 0))))])
      (T ++ [atR k n (nxR k n R (mdM n (mS (R.getD i (0, 0, 0, 0))))) (mdM n (mT (R.getD i (0, 0, 0, 0))))]) := by
  have hl := hF.lt i hi
  have hR := RI.all hF.lt i (by omega)
  have hlR : i < R.length := by rw [h.r, List.length_map]; exact hl
  have hx : dtM ((srun (kco k n) i).L.getD i (0, 0, 0, 0)) = 1 := hR.d _ (getD_inM hl)
  obtain ⟨e1, e2, e3, e4⟩ := srun_one i hR.k
  have hg := h.get hlR
  have dS : dtM (mS ((srun (kco k n) i).L.getD i (0, 0, 0, 0))) = 1 := by rw [dtM_S]; exact hx
  have dT : dtM (mT ((srun (kco k n) i).L.getD i (0, 0, 0, 0))) = 1 := by rw [dtM_T]; exact hx
  obtain ⟨a1, a2⟩ := find_vl hk n1 hC dS (srun (kco k n) i).L hR.d
  obtain ⟨b1, b2⟩ := find_vl hk n1 hC dT (vl (kco k n) (srun (kco k n) i).L (mS ((srun (kco k n) i).L.getD i (0, 0, 0, 0)))) (vl_dt hR.d dS)
  refine ⟨hlR, ?_⟩
  rw [hg, md_S, md_T]
  have hr := h.r
  have hs := h.s
  have ht := h.t
  subst hr hs ht
  rw [a1, b1, a2, b2]
  exact ⟨by rw [e1], by rw [e3], by rw [e4, e1]⟩
theorem RfI.done {k n : Int} {N : Nat} {R : List M4} {S T : List Nat} (hF : SFin (kco k n) N) (h : RfI k n N R S T) : R.length = N := by rw [h.r, List.length_map, hF.len]
end Go.Proofs.Ytilfkppapimocaa
namespace Go.Proofs.Ytilfkppapimocaa
open Go.RowKit
set_option linter.unusedVariables false
set_option linter.unusedSimpArgs false

theorem res_n {a n : Int} (n1 : 1 ≤ n) (n2 : n ≤ 120) : ∃ A : Int, a.tmod n = A ∧ -120 ≤ A ∧ A ≤ 120 ∧ 0 ≤ A + n ∧ A + n ≤ 240 ∧ (A + n) % n = a % n ∧ (A + n).tmod n = a % n := by
  have h1 := Int.tmod_lt_of_pos a (show 0 < n by omega)
  have h2 : -n < a.tmod n := by
    have := Int.tmod_lt_of_pos (-a) (show 0 < n by omega)
    rw [Int.neg_tmod] at this; omega
  have h3 : (a.tmod n + n) % n = a % n := by
    rw [Int.add_emod_right]
    have e := Int.tmod_add_mul_tdiv a n
    refine mod_iff.2 ⟨-(a.tdiv n), by grind⟩
  exact ⟨_, rfl, by omega, by omega, by omega, by omega, h3, by rw [Int.tmod_eq_emod_of_nonneg (by omega)]; exact h3⟩
set_option maxHeartbeats 3200000 in
set_option maxRecDepth 1000000 in
theorem rmod_any (n a b c d : Int) (w : World) (n1 : 1 ≤ n) (n2 : n ≤ 120) :
    Calls Try.prog 47 #[.agg #[.int .i64 a, .int .i64 b, .int .i64 c, .int .i64 d], .int .i64 n] w fun e w' => e = .returned (.agg #[.int .i64 (a % n), .int .i64 (b % n), .int .i64 (c % n), .int .i64 (d % n)]) ∧ Below w.heap.size w w' := by
  obtain ⟨A, ea, a1, a2, a3, a4, fa, ga⟩ := res_n (a := a) n1 n2
  obtain ⟨B, eb, b1, b2, b3, b4, fb, gb⟩ := res_n (a := b) n1 n2
  obtain ⟨C, ec, c1, c2, c3, c4, fc, gc⟩ := res_n (a := c) n1 n2
  obtain ⟨D, ed, d1, d2, d3, d4, fd, gd⟩ := res_n (a := d) n1 n2
  generalize a % n = a' at *
  generalize b % n = b' at *
  generalize c % n = c' at *
  generalize d % n = d' at *
  have hn0 : ¬ n = 0 := by omega
  go_enter Try.func47, Try.ntmps47
  go_upto_region 1 with fail
  go_region
  go_wp2
  refine bodyPost_ret (v := .agg #[.int .i64 a', .int .i64 b', .int .i64 c', .int .i64 d']) ?_ rfl ⟨rfl, ?_⟩
  · simp [results, Try.results47, go_sem]
  exact (below2 _ _ _).drew
set_option maxHeartbeats 800000 in
theorem r18_S (w : World) : Calls Try.prog 49 #[] w fun e w' => e = .returned (.agg #[.int .i64 0, .int .i64 (-1), .int .i64 1, .int .i64 0]) ∧ Below w.heap.size w w' := by
  go_enter Try.func49, Try.ntmps49
  go_wp2
  refine bodyPost_ret (v := .agg #[.int .i64 0, .int .i64 (-1), .int .i64 1, .int .i64 0]) ?_ rfl ⟨rfl, ?_⟩
  · simp [results, Try.results49, go_sem]
  exact below1 _ _
set_option maxHeartbeats 800000 in
theorem r18_T (w : World) : Calls Try.prog 50 #[.int .i64 1] w fun e w' => e = .returned (.agg #[.int .i64 1, .int .i64 1, .int .i64 0, .int .i64 1]) ∧ Below w.heap.size w w' := by
  go_enter Try.func50, Try.ntmps50
  go_wp2
  refine bodyPost_ret (v := .agg #[.int .i64 1, .int .i64 1, .int .i64 0, .int .i64 1]) ?_ rfl ⟨rfl, ?_⟩
  · simp [results, Try.results50, go_sem]
  exact below1 _ _
set_option maxHeartbeats 800000 in
theorem r18_One (w : World) : Calls Try.prog 48 #[] w fun e w' => e = .returned (.agg #[.int .i64 1, .int .i64 0, .int .i64 0, .int .i64 1]) ∧ Below w.heap.size w w' := by
  go_enter Try.func48, Try.ntmps48
  go_wp2
  refine bodyPost_ret (v := .agg #[.int .i64 1, .int .i64 0, .int .i64 0, .int .i64 1]) ?_ rfl ⟨rfl, ?_⟩
  · simp [results, Try.results48, go_sem]
  exact below1 _ _
end Go.Proofs.Ytilfkppapimocaa
namespace Go.Proofs.Ytilfkppapimocaa
set_option linter.unusedVariables false

/-- The lists of points of an early round are those of the whole. -/
theorem srun_preST {co : M4 → K4} {N : Nat} (hN : ∀ j, j < N → j < (srun co j).L.length) {i : Nat} : ∀ m, i + 1 ≤ m → m ≤ N → (srun co m).S.getD i 0 = (srun co (i + 1)).S.getD i 0 ∧ (srun co m).T.getD i 0 = (srun co (i + 1)).T.getD i 0 := by
  intro m
  induction m with
  | zero => intro h; omega
  | succ m ih =>
    intro h1 h2
    by_cases e : m = i
    · subst e; exact ⟨rfl, rfl⟩
    · obtain ⟨a, b⟩ := ih (by omega) (by omega)
      obtain ⟨_, _, e3, e4⟩ := srun_one m (RI.all hN m (by omega)).k
      have l2 := (srun_len co m).2.1
      have l3 := (srun_len co m).2.2
      rw [e3, e4, getD_early (by omega), getD_early (by omega)]
      exact ⟨a, b⟩
theorem vl_idx {co : M4 → K4} (L : List M4) (x : M4) : (if ((vl co L x).map co).idxOf (co x) = L.length then L ++ [x] else L) = vl co L x := by
  unfold vl
  by_cases h : (L.map co).contains (co x) = true
  · have hm : co x ∈ L.map co := by simpa using h
    have hl := List.idxOf_lt_length_iff.2 hm
    rw [List.length_map] at hl
    rw [if_pos h, if_neg (by omega)]
  · have hm : co x ∉ L.map co := by simpa using h
    rw [if_neg h, List.map_append, List.idxOf_append, if_neg hm, List.length_map, if_pos (by simp)]
/-- A round of the reference's Representatives: what stands in the lists of points tells when a matrix is new. -/
theorem rep_round {co : M4 → K4} {N i : Nat} (hF : SFin co N) (hi : i < N) :
    (if (srun co N).S.getD i 0 = (srun co i).L.length then (srun co i).L ++ [mS ((srun co i).L.getD i (0, 0, 0, 0))] else (srun co i).L) = vl co (srun co i).L (mS ((srun co i).L.getD i (0, 0, 0, 0))) ∧
    (if (srun co N).T.getD i 0 = (vl co (srun co i).L (mS ((srun co i).L.getD i (0, 0, 0, 0)))).length then vl co (srun co i).L (mS ((srun co i).L.getD i (0, 0, 0, 0))) ++ [mT ((srun co i).L.getD i (0, 0, 0, 0))] else vl co (srun co i).L (mS ((srun co i).L.getD i (0, 0, 0, 0)))) = (srun co (i + 1)).L := by
  have hR := RI.all hF.lt i (by omega)
  obtain ⟨e1, e2, e3, e4⟩ := srun_one i hR.k
  obtain ⟨p1, p2⟩ := srun_preST hF.lt (i := i) N (by omega) (Nat.le_refl _)
  have l2 := (srun_len co i).2.1
  have l3 := (srun_len co i).2.2
  have s1 : (srun co (i + 1)).S.getD i 0 = ((vl co (srun co i).L (mS ((srun co i).L.getD i (0, 0, 0, 0)))).map co).idxOf (co (mS ((srun co i).L.getD i (0, 0, 0, 0)))) := by
    rw [e3]
    have h := getD_last (srun co i).S (((vl co (srun co i).L (mS ((srun co i).L.getD i (0, 0, 0, 0)))).map co).idxOf (co (mS ((srun co i).L.getD i (0, 0, 0, 0)))))
    rwa [l2] at h
  have s2 : (srun co (i + 1)).T.getD i 0 = ((srun co (i + 1)).L.map co).idxOf (co (mT ((srun co i).L.getD i (0, 0, 0, 0)))) := by
    rw [e4]
    have h := getD_last (srun co i).T (((srun co (i + 1)).L.map co).idxOf (co (mT ((srun co i).L.getD i (0, 0, 0, 0)))))
    rwa [l3] at h
  rw [p1, p2, s1, s2, e1]
  exact ⟨vl_idx _ _, vl_idx _ _⟩
end Go.Proofs.Ytilfkppapimocaa
namespace Go.Proofs.Ytilfkppapimocaa
open Go.RowKit
set_option linter.unusedVariables false
set_option linter.unusedSimpArgs false

/-- Whether a group has more cosets than the laws look at. -/
def grI (k n : Int) : Bool := decide (gckI k n = 0) && (decide (400 < idxI k n) && decide (idxI k n ≤ 1152))
set_option maxHeartbeats 3200000 in
set_option maxRecDepth 1000000 in
theorem great_any (k n : Int) (w : World) : Calls Try.prog 23 #[.agg #[.int .i64 k, .int .i64 n]] w fun e w' => e = .returned (.bool (grI k n)) ∧ Below w.heap.size w w' := by
  have HR := Lib.hid (fun W => rindex_any k n W)
  unfold grI
  generalize gckI k n = z at *
  generalize idxI k n = x at *
  by_cases hz : z = 0
  · subst hz
    by_cases h1 : 400 < x
    · by_cases h2 : x ≤ 1152
      · rw [decide_eq_true h1, decide_eq_true h2]
        have d1 : decide (400 < x) = true := decide_eq_true h1
        have d2 : decide (x ≤ 1152) = true := decide_eq_true h2
        go_enter Try.func23, Try.ntmps23
        go_wp2_with (first
          | (go_at_call 20; ((with_reducible refine (HR.out _).mono ?_); rintro e w1 ⟨rfl, hb⟩; have HB1 : Hid (Below w.heap.size w w1) := bel1 (Below.refl _ _) hb; clear hb))
          | fail)
        go_ret
        exact ⟨rfl, HB1.out⟩
      · rw [decide_eq_true h1, decide_eq_false h2]
        have d1 : decide (400 < x) = true := decide_eq_true h1
        have d2 : decide (x ≤ 1152) = false := decide_eq_false h2
        go_enter Try.func23, Try.ntmps23
        go_wp2_with (first
          | (go_at_call 20; ((with_reducible refine (HR.out _).mono ?_); rintro e w1 ⟨rfl, hb⟩; have HB1 : Hid (Below w.heap.size w w1) := bel1 (Below.refl _ _) hb; clear hb))
          | fail)
        go_ret
        exact ⟨rfl, HB1.out⟩
    · rw [decide_eq_false h1]
      have d1 : decide (400 < x) = false := decide_eq_false h1
      go_enter Try.func23, Try.ntmps23
      go_wp2_with (first
        | (go_at_call 20; ((with_reducible refine (HR.out _).mono ?_); rintro e w1 ⟨rfl, hb⟩; have HB1 : Hid (Below w.heap.size w w1) := bel1 (Below.refl _ _) hb; clear hb))
        | fail)
      go_ret
      exact ⟨rfl, HB1.out⟩
  · rw [decide_eq_false hz]
    have hzb : (z == 0) = false := by simpa using hz
    go_enter Try.func23, Try.ntmps23
    go_wp2_with (first
      | (go_at_call 20; ((with_reducible refine (HR.out _).mono ?_); rintro e w1 ⟨rfl, hb⟩; have HB1 : Hid (Below w.heap.size w w1) := bel1 (Below.refl _ _) hb; clear hb))
      | fail)
    go_ret
    exact ⟨rfl, HB1.out⟩
/-- The boxes of a group and a matrix. -/
structure G2 (w W : World) (k n a b c d : Int) : Prop where
  g : W.heap[w.heap.size]? = some (.cells #[.int .i64 k, .int .i64 n] 24 (0, 0))
  m : W.heap[w.heap.size + 1]? = some (.cells #[.int .i64 a, .int .i64 b, .int .i64 c, .int .i64 d] 26 (0, 0))
  bel : Below w.heap.size w W
theorem G2.start (w : World) (k n a b c d : Int) : G2 w ((w.alloc (.cells #[.int .i64 k, .int .i64 n] 24)).alloc (.cells #[.int .i64 a, .int .i64 b, .int .i64 c, .int .i64 d] 26)) k n a b c d := by
  have h1 : (w.alloc (.cells #[.int .i64 k, .int .i64 n] 24)).heap.size = w.heap.size + 1 := by simp
  have := heap_alloc_new (w.alloc (.cells #[.int .i64 k, .int .i64 n] 24)) (.cells #[.int .i64 a, .int .i64 b, .int .i64 c, .int .i64 d] 26)
  rw [h1] at this
  exact ⟨block_alloc (heap_alloc_new w _) _, this, below2 w _ _⟩
theorem G2.below {w W W' : World} {k n a b c d : Int} (h : G2 w W k n a b c d) (hb : Below W.heap.size W W') : G2 w W' k n a b c d := ⟨block_below h.g hb, block_below h.m hb, bel0 h.bel hb⟩
theorem G2.cells {w W : World} {k n a b c d : Int} (h : G2 w W k n a b c d) : (W.cell? ⟨w.heap.size, 0, none⟩ = some (.int .i64 k) ∧ W.cell? ⟨w.heap.size, 1, none⟩ = some (.int .i64 n)) ∧
    (W.cell? ⟨w.heap.size + 1, 0, none⟩ = some (.int .i64 a) ∧ W.cell? ⟨w.heap.size + 1, 1, none⟩ = some (.int .i64 b) ∧ W.cell? ⟨w.heap.size + 1, 2, none⟩ = some (.int .i64 c) ∧ W.cell? ⟨w.heap.size + 1, 3, none⟩ = some (.int .i64 d)) := ⟨(two_of_block h.g).1, (four_of_block h.m).1⟩
theorem krdz {w w' : World} {A : Option Addr} {c : Nat} {l : List Int} (h : RdZ w w.heap.size A c l) (hb : Below w.heap.size w w') : RdZ w' w'.heap.size A c l := (h.below hb).mono hb.size
set_option maxHeartbeats 3200000 in
set_option maxRecDepth 1000000 in
theorem lmem_great {k n a b c d : Int} (w : World) (HG0 : ∀ W, Calls Try.prog 23 #[.agg #[.int .i64 k, .int .i64 n]] W fun e w' => e = .returned (.bool true) ∧ Below W.heap.size W w') :
    Calls Try.prog 7 #[.agg #[.int .i64 k, .int .i64 n], .agg #[.int .i64 a, .int .i64 b, .int .i64 c, .int .i64 d]] w fun e w' => e = .returned (.bool true) ∧ Below w.heap.size w w' := by
  have HG := Lib.hid HG0
  have F0 := Lib.hid (G2.start w k n a b c d)
  obtain ⟨⟨t1, t2⟩, _⟩ := F0.out.cells
  clear HG0
  go_enter Try.func7, Try.ntmps7
  go_wp2_with (first
    | (go_at_call 23; ((with_reducible refine (HG.out _).mono ?_); rintro e w1 ⟨rfl, hb⟩; have F1 := Lib.hid (F0.out.below hb); clear hb))
    | (go_at_call 12; ((with_reducible refine (awake_any _).mono ?_); rintro e w2 ⟨rfl, hb⟩; have F2 := Lib.hid (F1.out.below hb); clear hb))
    | fail)
  go_ret
  exact ⟨rfl, F2.out.bel⟩
set_option maxHeartbeats 3200000 in
set_option maxRecDepth 1000000 in
theorem lmem_of {k n a b c d z y : Int} {u : Bool} (w : World) (HG0 : ∀ W, Calls Try.prog 23 #[.agg #[.int .i64 k, .int .i64 n]] W fun e w' => e = .returned (.bool false) ∧ Below W.heap.size W w') (hz : z ≠ 0) (HO0 : ∀ W, Calls Try.prog 21 #[.agg #[.int .i64 k, .int .i64 n]] W fun e w' => e = .returned (.tuple #[.agg #[.slice none 0 0, .slice none 0 0], .int .i64 z]) ∧ Below W.heap.size W w') (HH0 : ∀ W, Calls Try.prog 13 #[.agg #[.int .i64 k, .int .i64 n], .agg #[.int .i64 a, .int .i64 b, .int .i64 c, .int .i64 d]] W fun e w' => e = .returned (.tuple #[.bool u, .int .i64 y]) ∧ Below W.heap.size W w') :
    Calls Try.prog 7 #[.agg #[.int .i64 k, .int .i64 n], .agg #[.int .i64 a, .int .i64 b, .int .i64 c, .int .i64 d]] w fun e w' => e = .returned (.bool true) ∧ Below w.heap.size w w' := by
  have HG := Lib.hid HG0
  have HO := Lib.hid HO0
  have HH := Lib.hid HH0
  have F0 := Lib.hid (G2.start w k n a b c d)
  have hzb : (z == 0) = false := by simpa using hz
  clear HG0 HO0 HH0
  go_enter Try.func7, Try.ntmps7
  go_wp2_with (first
    | (go_at_call 23; ((with_reducible refine (HG.out _).mono ?_); rintro e w1 ⟨rfl, hb⟩; have F1 := Lib.hid (F0.out.below hb); clear hb))
    | (go_at_call 12; ((with_reducible refine (awake_any _).mono ?_); rintro e w2 ⟨rfl, hb⟩; have F2 := Lib.hid (F1.out.below hb); obtain ⟨⟨t1, t2⟩, ⟨m1, m2, m3, m4⟩⟩ := F2.out.cells; clear hb))
    | (go_at_call 21; ((with_reducible refine (HO.out _).mono ?_); rintro e w3 ⟨rfl, hb⟩; have F3 := Lib.hid ((F2.out.below hb).below (below1 w3 (.cells #[.slice none 0 0, .slice none 0 0] 47))); clear t1 t2 m1 m2 m3 m4; obtain ⟨⟨t1, t2⟩, ⟨m1, m2, m3, m4⟩⟩ := F3.out.cells; clear hb))
    | (go_at_call 13; ((with_reducible refine (HH.out _).mono ?_); rintro e w4 ⟨rfl, hb⟩; have F4 := Lib.hid (F3.out.below hb); clear t1 t2 m1 m2 m3 m4; clear hb))
    | fail)
  go_ret
  exact ⟨rfl, F4.out.bel⟩
set_option maxHeartbeats 3200000 in
set_option maxRecDepth 1000000 in
theorem lmem_has {k n a b c d y : Int} {u : Bool} {L L' : List Int} (w : World) (HG0 : ∀ W, Calls Try.prog 23 #[.agg #[.int .i64 k, .int .i64 n]] W fun e w' => e = .returned (.bool false) ∧ Below W.heap.size W w') (hy : y ≠ 0) (HO0 : ∀ W, Calls Try.prog 21 #[.agg #[.int .i64 k, .int .i64 n]] W fun e w' => ∃ AS cS AT cT, e = .returned (.tuple #[.agg #[.slice AS L.length cS, .slice AT L'.length cT], .int .i64 0]) ∧ RdZ w' w'.heap.size AS cS L ∧ RdZ w' w'.heap.size AT cT L' ∧ Below W.heap.size W w') (HH0 : ∀ W, Calls Try.prog 13 #[.agg #[.int .i64 k, .int .i64 n], .agg #[.int .i64 a, .int .i64 b, .int .i64 c, .int .i64 d]] W fun e w' => e = .returned (.tuple #[.bool u, .int .i64 y]) ∧ Below W.heap.size W w') :
    Calls Try.prog 7 #[.agg #[.int .i64 k, .int .i64 n], .agg #[.int .i64 a, .int .i64 b, .int .i64 c, .int .i64 d]] w fun e w' => e = .returned (.bool true) ∧ Below w.heap.size w w' := by
  have HG := Lib.hid HG0
  have HO := Lib.hid HO0
  have HH := Lib.hid HH0
  have F0 := Lib.hid (G2.start w k n a b c d)
  have hzb : (y == 0) = false := by simpa using hy
  clear HG0 HO0 HH0
  go_enter Try.func7, Try.ntmps7
  go_wp2_with (first
    | (go_at_call 23; ((with_reducible refine (HG.out _).mono ?_); rintro e w1 ⟨rfl, hb⟩; have F1 := Lib.hid (F0.out.below hb); clear hb))
    | (go_at_call 12; ((with_reducible refine (awake_any _).mono ?_); rintro e w2 ⟨rfl, hb⟩; have F2 := Lib.hid (F1.out.below hb); obtain ⟨⟨t1, t2⟩, ⟨m1, m2, m3, m4⟩⟩ := F2.out.cells; clear hb))
    | (go_at_call 21; ((with_reducible refine (HO.out _).mono ?_); rintro e w3 ⟨AS, cS, AT, cT, rfl, d1, d2, hb⟩; have F3 := Lib.hid ((F2.out.below hb).below (below1 w3 (.cells #[.slice AS L.length cS, .slice AT L'.length cT] 47))); have X3 : Hid ((w3.alloc (.cells #[.slice AS L.length cS, .slice AT L'.length cT] 47)).heap[w3.heap.size]? = some (.cells #[.slice AS L.length cS, .slice AT L'.length cT] 47)) := heap_alloc_new w3 _; have D3 : Hid (RdZ (w3.alloc (.cells #[.slice AS L.length cS, .slice AT L'.length cT] 47)) (w3.alloc (.cells #[.slice AS L.length cS, .slice AT L'.length cT] 47)).heap.size AS cS L ∧ RdZ (w3.alloc (.cells #[.slice AS L.length cS, .slice AT L'.length cT] 47)) (w3.alloc (.cells #[.slice AS L.length cS, .slice AT L'.length cT] 47)).heap.size AT cT L') := ⟨krdz d1 (below1 w3 (.cells #[.slice AS L.length cS, .slice AT L'.length cT] 47)), krdz d2 (below1 w3 (.cells #[.slice AS L.length cS, .slice AT L'.length cT] 47))⟩; clear t1 t2 m1 m2 m3 m4; obtain ⟨⟨t1, t2⟩, ⟨m1, m2, m3, m4⟩⟩ := F3.out.cells; clear hb d1 d2))
    | (go_at_call 13; ((with_reducible refine (HH.out _).mono ?_); rintro e w4 ⟨rfl, hb⟩; have F4 := Lib.hid (F3.out.below hb); clear t1 t2 m1 m2 m3 m4; clear hb))
    | fail)
  go_ret
  exact ⟨rfl, F4.out.bel⟩
set_option maxHeartbeats 3200000 in
set_option maxRecDepth 1000000 in
theorem lmem_ok {k n a b c d y : Int} {u : Bool} {L L' : List Int} (w : World) (HG0 : ∀ W, Calls Try.prog 23 #[.agg #[.int .i64 k, .int .i64 n]] W fun e w' => e = .returned (.bool false) ∧ Below W.heap.size W w') (hy : y = 0) (HO0 : ∀ W, Calls Try.prog 21 #[.agg #[.int .i64 k, .int .i64 n]] W fun e w' => ∃ AS cS AT cT, e = .returned (.tuple #[.agg #[.slice AS L.length cS, .slice AT L'.length cT], .int .i64 0]) ∧ RdZ w' w'.heap.size AS cS L ∧ RdZ w' w'.heap.size AT cT L' ∧ Below W.heap.size W w') (HH0 : ∀ W, Calls Try.prog 13 #[.agg #[.int .i64 k, .int .i64 n], .agg #[.int .i64 a, .int .i64 b, .int .i64 c, .int .i64 d]] W fun e w' => e = .returned (.tuple #[.bool u, .int .i64 y]) ∧ Below W.heap.size W w')
    (HC0 : ∀ (W : World) (A : Option Addr) (c1 : Nat) (A' : Option Addr) (c2 : Nat), RdZ W W.heap.size A c1 L → RdZ W W.heap.size A' c2 L' → Calls Try.prog 28 #[.agg #[.slice A L.length c1, .slice A' L'.length c2], .agg #[.int .i64 a, .int .i64 b, .int .i64 c, .int .i64 d]] W fun e w' => e = .returned (.tuple #[.bool u, .int .i64 0]) ∧ Below W.heap.size W w') :
    Calls Try.prog 7 #[.agg #[.int .i64 k, .int .i64 n], .agg #[.int .i64 a, .int .i64 b, .int .i64 c, .int .i64 d]] w fun e w' => e = .returned (.bool true) ∧ Below w.heap.size w w' := by
  subst hy
  have HG := Lib.hid HG0
  have HO := Lib.hid HO0
  have HH := Lib.hid HH0
  have HC := Lib.hid HC0
  have F0 := Lib.hid (G2.start w k n a b c d)
  clear HG0 HO0 HH0 HC0
  rcases u with _ | _
  all_goals
    go_enter Try.func7, Try.ntmps7
    go_wp2_with (first
      | (go_at_call 23; ((with_reducible refine (HG.out _).mono ?_); rintro e w1 ⟨rfl, hb⟩; have F1 := Lib.hid (F0.out.below hb); clear hb))
      | (go_at_call 12; ((with_reducible refine (awake_any _).mono ?_); rintro e w2 ⟨rfl, hb⟩; have F2 := Lib.hid (F1.out.below hb); obtain ⟨⟨t1, t2⟩, ⟨m1, m2, m3, m4⟩⟩ := F2.out.cells; clear hb))
      | (go_at_call 21; ((with_reducible refine (HO.out _).mono ?_); rintro e w3 ⟨AS, cS, AT, cT, rfl, d1, d2, hb⟩; have F3 := Lib.hid ((F2.out.below hb).below (below1 w3 (.cells #[.slice AS L.length cS, .slice AT L'.length cT] 47))); have X3 : Hid ((w3.alloc (.cells #[.slice AS L.length cS, .slice AT L'.length cT] 47)).heap[w3.heap.size]? = some (.cells #[.slice AS L.length cS, .slice AT L'.length cT] 47)) := heap_alloc_new w3 _; have D3 : Hid (RdZ (w3.alloc (.cells #[.slice AS L.length cS, .slice AT L'.length cT] 47)) (w3.alloc (.cells #[.slice AS L.length cS, .slice AT L'.length cT] 47)).heap.size AS cS L ∧ RdZ (w3.alloc (.cells #[.slice AS L.length cS, .slice AT L'.length cT] 47)) (w3.alloc (.cells #[.slice AS L.length cS, .slice AT L'.length cT] 47)).heap.size AT cT L') := ⟨krdz d1 (below1 w3 (.cells #[.slice AS L.length cS, .slice AT L'.length cT] 47)), krdz d2 (below1 w3 (.cells #[.slice AS L.length cS, .slice AT L'.length cT] 47))⟩; clear t1 t2 m1 m2 m3 m4; obtain ⟨⟨t1, t2⟩, ⟨m1, m2, m3, m4⟩⟩ := F3.out.cells; clear hb d1 d2))
      | (go_at_call 13; ((with_reducible refine (HH.out _).mono ?_); rintro e w4 ⟨rfl, hb⟩; have F4 := Lib.hid (F3.out.below hb); have X4 := Lib.hid (block_below X3.out hb); have D4 := Lib.hid (And.intro (krdz D3.out.1 hb) (krdz D3.out.2 hb)); obtain ⟨⟨x1, x2⟩, _⟩ := two_of_block X4.out; clear t1 t2 m1 m2 m3 m4; obtain ⟨⟨t1, t2⟩, ⟨m1, m2, m3, m4⟩⟩ := F4.out.cells; clear hb))
      | (go_at_call 28; ((with_reducible refine (HC.out _ _ _ _ _ D4.out.1 D4.out.2).mono ?_); rintro e w5 ⟨rfl, hb⟩; have F5 := Lib.hid (F4.out.below hb); clear t1 t2 m1 m2 m3 m4; clear hb x1 x2))
      | fail)
    go_ret
    exact ⟨rfl, F5.out.bel⟩
theorem lmem_walk (k n a b c d : Int) (w : World) :
    Calls Try.prog 7 #[.agg #[.int .i64 k, .int .i64 n], .agg #[.int .i64 a, .int .i64 b, .int .i64 c, .int .i64 d]] w fun e w' => e = .returned (.bool true) ∧ Below w.heap.size w w' := by
  by_cases hg : grI k n = true
  · exact lmem_great w fun W => by rw [← hg]; exact great_any k n W
  · have hg' : grI k n = false := by simpa using hg
    have HG := fun W => great_any k n W
    rw [hg'] at HG
    by_cases hz : ckxI k n = 0
    · by_cases hy : hasE k n a b c d = 0
      · have ha := ol_act hz
        obtain ⟨_, _, hck⟩ := ckx_kf hz
        have hk : chkI a b c d = 0 := by unfold hasE at hy; rwa [if_pos hck] at hy
        have hR : hasR k n a b c d = hasV k n a b c d := if_pos hy
        refine lmem_ok w HG hy (fun W => of_ok hz W) (fun W => has_any k n a b c d W) fun W A c1 A' c2 h1 h2 => ?_
        refine contains_k (movk_ok ha 0 a b c d (by have := ha.pos; omega) hk) _ ?_ W A c1 A' c2 h1 h2
        rw [hR, Bool.eq_iff_iff, ← mv_has hz hk]
        by_cases e : mvI (olS k n) (olT k n) 0 a b c d = 0 <;> simp [e]
      · exact lmem_has w HG hy (fun W => of_ok hz W) fun W => has_any k n a b c d W
    · exact lmem_of w HG hz (fun W => of_err hz W) fun W => has_any k n a b c d W
end Go.Proofs.Ytilfkppapimocaa
namespace Go.Proofs.Ytilfkppapimocaa
open Go.RowKit
set_option linter.unusedVariables false
set_option linter.unusedSimpArgs false

/-- A list of matrices that can be read. -/
def RdM (w : World) (B g : Nat) (L : List M4) : Prop := g < B ∧ ∀ i, i < L.length → w.cell? ⟨g, i * 4, none⟩ = some (.int .i64 (L.getD i (0, 0, 0, 0)).1) ∧ w.cell? ⟨g, i * 4 + 1, none⟩ = some (.int .i64 (L.getD i (0, 0, 0, 0)).2.1) ∧ w.cell? ⟨g, i * 4 + 2, none⟩ = some (.int .i64 (L.getD i (0, 0, 0, 0)).2.2.1) ∧ w.cell? ⟨g, i * 4 + 3, none⟩ = some (.int .i64 (L.getD i (0, 0, 0, 0)).2.2.2)
theorem RdM.up {w w' : World} {g : Nat} {L : List M4} (h : RdM w w.heap.size g L) (hb : Below w.heap.size w w') : RdM w' w'.heap.size g L :=
  ⟨Nat.lt_of_lt_of_le h.1 hb.size, fun i hi => by
    obtain ⟨a, b, c, d⟩ := h.2 i hi
    exact ⟨(hb.cell (p := ⟨g, i * 4, none⟩) h.1).trans a, (hb.cell (p := ⟨g, i * 4 + 1, none⟩) h.1).trans b, (hb.cell (p := ⟨g, i * 4 + 2, none⟩) h.1).trans c, (hb.cell (p := ⟨g, i * 4 + 3, none⟩) h.1).trans d⟩⟩
theorem own_rdm {w : World} {B : Nat} {v : Value} {L : List M4} (h : w.ownsRow B 26 4 v L.length (ms L)) (h0 : 0 < L.length) : ∃ g cap, v = .slice (some ⟨g, 0, none⟩) L.length cap ∧ RdM w w.heap.size g L := by
  obtain ⟨g, cap, hv, hg, _⟩ := row_at h h0
  refine ⟨g, cap, hv, hg, fun i hi => ?_⟩
  obtain ⟨g', cap', hv', _, r1, r2, r3, r4⟩ := row_at h hi
  rw [hv] at hv'
  injection hv' with e1 _ _
  injection e1 with e1
  injection e1 with e1
  subst e1
  have e : L.getD i (0, 0, 0, 0) = L[i] := by rw [List.getD_eq_getElem?_getD, List.getElem?_eq_getElem hi]; rfl
  rw [e]
  exact ⟨r1, r2, r3, r4⟩
set_option maxHeartbeats 3200000 in
set_option maxRecDepth 1000000 in
theorem reps_gen {k n : Int} {N1 N2 : Nat} {xs ys : List Value} {L : List M4} (w : World) (hN : 0 < L.length) (HK0 : ∀ W, Calls Try.prog 42 #[.agg #[.int .i64 k, .int .i64 n]] W fun e w' => e = .returned (.int .i64 0) ∧ Below W.heap.size W w')
    (HS0 : ∀ W, Calls Try.prog 43 #[.agg #[.int .i64 k, .int .i64 n]] W fun e w' => ∃ vS vT vl, e = .returned (.tuple #[.agg #[vS, vT], vl]) ∧ w'.ownsRow W.heap.size 3 1 vS N1 xs ∧ w'.ownsRow W.heap.size 3 1 vT N2 ys ∧ w'.ownsRow W.heap.size 26 4 vl L.length (ms L) ∧ Below W.heap.size W w') :
    Calls Try.prog 25 #[.agg #[.int .i64 k, .int .i64 n]] w fun e w' => ∃ g c, e = .returned (.tuple #[.slice (some ⟨g, 0, none⟩) L.length c, .int .i64 0]) ∧ RdM w' w'.heap.size g L ∧ Below w.heap.size w w' := by
  have HK := Lib.hid HK0
  have HS := Lib.hid HS0
  clear HK0 HS0
  go_enter Try.func25, Try.ntmps25
  go_wp2_with (first
    | (go_at_call 42; ((with_reducible refine (HK.out _).mono ?_); rintro e w1 ⟨rfl, hb⟩; have T1 : Hid (w1.heap[w.heap.size]? = some (.cells #[.int .i64 k, .int .i64 n] 24 (0, 0))) := block_below (heap_alloc_new w _) hb; have HB1 : Hid (Below w.heap.size w w1) := bel1 (Below.refl _ _) hb; obtain ⟨⟨t1, t2⟩, _⟩ := two_of_block T1.out; have hz1 := lt_of_block T1.out; clear hb))
    | (go_at_call 43; ((with_reducible refine (HS.out _).mono ?_); rintro e w2 ⟨vS, vT, vl, rfl, hS, hT, hL, hb⟩; obtain ⟨AS, cS, rfl⟩ := own_len hS; obtain ⟨AT, cT, rfl⟩ := own_len hT; obtain ⟨gl, cL, rfl, hgl⟩ := own_rdm hL hN; have HB2 : Hid (Below w.heap.size w w2) := bel0 HB1.out hb; have HR := Lib.hid hgl; clear hgl; clear hb hS hT hL t1 t2))
    | fail)
  refine bodyPost_ret (v := .tuple #[.slice (some ⟨gl, 0, none⟩) L.length cL, .int .i64 0]) ?_ rfl ⟨gl, cL, rfl, HR.out.up (below1 _ _), HB2.out.trans ((below1 _ _).mono HB2.out.size)⟩
  simp [results, Try.results25, go_sem]
set_option maxHeartbeats 3200000 in
set_option maxRecDepth 1000000 in
theorem reps_bad {k n z : Int} (w : World) (hz : z ≠ 0) (HK0 : ∀ W, Calls Try.prog 42 #[.agg #[.int .i64 k, .int .i64 n]] W fun e w' => e = .returned (.int .i64 z) ∧ Below W.heap.size W w') :
    Calls Try.prog 25 #[.agg #[.int .i64 k, .int .i64 n]] w fun e w' => e = .returned (.tuple #[.slice none 0 0, .int .i64 z]) ∧ Below w.heap.size w w' := by
  have HK := Lib.hid HK0
  have hzb : (z == 0) = false := by simpa using hz
  clear HK0
  go_enter Try.func25, Try.ntmps25
  go_wp2_with (first
    | (go_at_call 42; ((with_reducible refine (HK.out _).mono ?_); rintro e w1 ⟨rfl, hb⟩; have HB1 : Hid (Below w.heap.size w w1) := bel1 (Below.refl _ _) hb; clear hb))
    | fail)
  go_ret2
  exact ⟨rfl, HB1.out⟩
/-- The matrices of an early list are those of the whole. -/
theorem srun_pre {co : M4 → K4} {N : Nat} (hN : ∀ j, j < N → j < (srun co j).L.length) {i j : Nat} (hj : j < (srun co i).L.length) : ∀ m, i ≤ m → m ≤ N → j < (srun co m).L.length ∧ (srun co m).L.getD j (0, 0, 0, 0) = (srun co i).L.getD j (0, 0, 0, 0) := by
  intro m
  induction m with
  | zero => intro h1 _; obtain rfl : i = 0 := by omega
            exact ⟨hj, rfl⟩
  | succ m ih =>
    intro h1 h2
    by_cases e : i = m + 1
    · subst e; exact ⟨hj, rfl⟩
    · obtain ⟨a, b⟩ := ih (by omega) (by omega)
      have hR := RI.all hN m (by omega)
      obtain ⟨e1, _⟩ := srun_one m hR.k
      obtain ⟨E1, x1⟩ := vl_ext (co := co) (srun co m).L (mS ((srun co m).L.getD m (0, 0, 0, 0)))
      obtain ⟨E2, x2⟩ := vl_ext (co := co) (vl co (srun co m).L (mS ((srun co m).L.getD m (0, 0, 0, 0)))) (mT ((srun co m).L.getD m (0, 0, 0, 0)))
      rw [e1, x2, x1, List.append_assoc]
      exact ⟨by rw [List.length_append]; omega, by rw [getD_ext a, b]⟩
theorem small_chk {a b c d : Int} (h : okB (a, b, c, d) = true) (hd : a * d - b * c = 1) : chkI a b c d = 0 := by
  unfold okB at h
  simp only [Bool.and_eq_true, decide_eq_true_eq] at h
  obtain ⟨⟨⟨h1, h2⟩, h3⟩, h4⟩ := h
  have h5 : fitB a b c d = true := by
    unfold fitB
    rw [inE_yes (by omega) (by omega), inE_yes (by omega) (by omega), inE_yes (by omega) (by omega), inE_yes (by omega) (by omega)]
    rfl
  unfold chkI
  rw [if_neg (by rw [h5]; simp), if_pos hd]
noncomputable def olL (k n : Int) : List M4 := (srun (kco k n) (idxN k n.toNat)).L
theorem reps_ok {k n : Int} (h : ckxI k n = 0) (w : World) : Calls Try.prog 25 #[.agg #[.int .i64 k, .int .i64 n]] w fun e w' => ∃ g c, e = .returned (.tuple #[.slice (some ⟨g, 0, none⟩) (olL k n).length c, .int .i64 0]) ∧ RdM w' w'.heap.size g (olL k n) ∧ Below w.heap.size w w' := by
  obtain ⟨hF, hN, _⟩ := ckx_kf h
  have hl : (olL k n).length = idxN k n.toNat := hF.fin.len
  have hp := hF.fin.ri.pos
  refine reps_gen (N1 := (olS k n).length) (N2 := (olT k n).length) (xs := zs (olS k n)) (ys := zs (olT k n)) w hp (fun W => by rw [← h]; exact ckx_any k n W) fun W => ?_
  rw [hl]
  exact ksearch hF hN W
/-- The matrices of the list move point 0 to their own places. -/
theorem rep_mv {k n : Int} (h : ckxI k n = 0) {i : Nat} (hi : i < (olL k n).length) : ∃ a b c d, (olL k n).getD i (0, 0, 0, 0) = (a, b, c, d) ∧ MovK (olS k n) (olT k n) (0 : Int) a b c d (i : Nat) 0 := by
  obtain ⟨hF, hN, _⟩ := ckx_kf h
  have hl : (olL k n).length = idxN k n.toNat := hF.fin.len
  have ha := ol_act h
  obtain ⟨⟨a, b, c, d⟩, he⟩ : ∃ x, x = (olL k n).getD i (0, 0, 0, 0) := ⟨_, rfl⟩
  have hd : dtM (a, b, c, d) = 1 := by rw [he]; exact hF.fin.ri.d _ (getD_inM hi)
  have hiN : i < idxN k n.toNat := by omega
  have ho : okB (a, b, c, d) = true := by
    rw [he]
    have := (srun_pre hF.fin.lt (hF.fin.lt i hiN) (idxN k n.toNat) (by omega) (Nat.le_refl _)).2
    unfold olL
    rw [this]
    exact hF.ok i hiN
  have hk := small_chk ho hd
  have hm : mvI (olS k n) (olT k n) 0 a b c d = i := by
    rw [mv_pl h hk]
    have := hF.fin.pl_L hiN
    rw [he]
    exact this
  refine ⟨a, b, c, d, he.symm, ?_⟩
  have := movk_ok ha 0 a b c d (by have := ha.pos; omega) hk
  rw [hm] at this
  exact this
set_option maxHeartbeats 3200000 in
set_option maxRecDepth 1000000 in
theorem lrep_great {k n : Int} (w : World) (HG0 : ∀ W, Calls Try.prog 23 #[.agg #[.int .i64 k, .int .i64 n]] W fun e w' => e = .returned (.bool true) ∧ Below W.heap.size W w') :
    Calls Try.prog 8 #[.agg #[.int .i64 k, .int .i64 n]] w fun e w' => e = .returned (.bool true) ∧ Below w.heap.size w w' := by
  have HG := Lib.hid HG0
  have T0 : Hid ((w.alloc (.cells #[.int .i64 k, .int .i64 n] 24)).heap[w.heap.size]? = some (.cells #[.int .i64 k, .int .i64 n] 24 (0, 0))) := heap_alloc_new w _
  clear HG0
  go_enter Try.func8, Try.ntmps8
  go_wp2_with (first
    | (go_at_call 23; ((with_reducible refine (HG.out _).mono ?_); rintro e w1 ⟨rfl, hb⟩; have HB1 : Hid (Below w.heap.size w w1) := bel1 (Below.refl _ _) hb; have T1 := Lib.hid (block_below T0.out hb); clear hb))
    | (go_at_call 12; ((with_reducible refine (awake_any _).mono ?_); rintro e w2 ⟨rfl, hb⟩; have HB2 := Lib.hid (bel0 HB1.out hb); have T2 := Lib.hid (block_below T1.out hb); clear hb))
    | fail)
  go_ret
  exact ⟨rfl, HB2.out⟩
set_option maxHeartbeats 3200000 in
set_option maxRecDepth 1000000 in
theorem lrep_err {k n z : Int} (w : World) (HG0 : ∀ W, Calls Try.prog 23 #[.agg #[.int .i64 k, .int .i64 n]] W fun e w' => e = .returned (.bool false) ∧ Below W.heap.size W w') (hz : z ≠ 0) (HO0 : ∀ W, Calls Try.prog 21 #[.agg #[.int .i64 k, .int .i64 n]] W fun e w' => e = .returned (.tuple #[.agg #[.slice none 0 0, .slice none 0 0], .int .i64 z]) ∧ Below W.heap.size W w')
    (HP0 : ∀ W, Calls Try.prog 25 #[.agg #[.int .i64 k, .int .i64 n]] W fun e w' => e = .returned (.tuple #[.slice none 0 0, .int .i64 z]) ∧ Below W.heap.size W w') :
    Calls Try.prog 8 #[.agg #[.int .i64 k, .int .i64 n]] w fun e w' => e = .returned (.bool true) ∧ Below w.heap.size w w' := by
  have HG := Lib.hid HG0
  have HO := Lib.hid HO0
  have HP := Lib.hid HP0
  have T0 : Hid ((w.alloc (.cells #[.int .i64 k, .int .i64 n] 24)).heap[w.heap.size]? = some (.cells #[.int .i64 k, .int .i64 n] 24 (0, 0))) := heap_alloc_new w _
  have hzb : (z == 0) = false := by simpa using hz
  clear HG0 HO0 HP0
  go_enter Try.func8, Try.ntmps8
  go_wp2_with (first
    | (go_at_call 23; ((with_reducible refine (HG.out _).mono ?_); rintro e w1 ⟨rfl, hb⟩; have HB1 : Hid (Below w.heap.size w w1) := bel1 (Below.refl _ _) hb; have T1 := Lib.hid (block_below T0.out hb); clear hb))
    | (go_at_call 12; ((with_reducible refine (awake_any _).mono ?_); rintro e w2 ⟨rfl, hb⟩; have HB2 := Lib.hid (bel0 HB1.out hb); have T2 := Lib.hid (block_below T1.out hb); obtain ⟨⟨t1, t2⟩, _⟩ := two_of_block T2.out; clear hb))
    | (go_at_call 21; ((with_reducible refine (HO.out _).mono ?_); rintro e w3 ⟨rfl, hb⟩; have HB3 : Hid (Below w.heap.size w (w3.alloc (.cells #[.slice none 0 0, .slice none 0 0] 47))) := bel0 (bel0 HB2.out hb) (below1 _ _); have T3 := Lib.hid (block_alloc (block_below T2.out hb) (.cells #[.slice none 0 0, .slice none 0 0] 47)); have X3 : Hid ((w3.alloc (.cells #[.slice none 0 0, .slice none 0 0] 47)).heap[w3.heap.size]? = some (.cells #[.slice none 0 0, .slice none 0 0] 47)) := heap_alloc_new w3 _; clear t1 t2; obtain ⟨⟨t1, t2⟩, _⟩ := two_of_block T3.out; clear hb))
    | (go_at_call 25; ((with_reducible refine (HP.out _).mono ?_); rintro e w4 ⟨rfl, hb⟩; have HB4 := Lib.hid (bel0 HB3.out hb); have X4 := Lib.hid (block_below X3.out hb); obtain ⟨⟨x1, x2⟩, _⟩ := two_of_block X4.out; clear t1 t2 hb))
    | fail)
  go_loopw [7, 8, 9] (fun I _ _ wr => I = .int .i64 0 ∧ Hid (wr = w4)) (fun _ _ _ _ => 0)
  case atStart => exact ⟨rfl, rfl⟩
  case round =>
    obtain ⟨rfl, HW⟩ := hrel
    have hW : wr = w4 := HW.out
    subst hW
    go_wp2
    go_ret
    exact ⟨rfl, HB4.out⟩
set_option maxHeartbeats 3200000 in
set_option maxRecDepth 1000000 in
theorem lrep_ok {k n : Int} {L L' : List Int} {LM : List M4} (w : World) (HG0 : ∀ W, Calls Try.prog 23 #[.agg #[.int .i64 k, .int .i64 n]] W fun e w' => e = .returned (.bool false) ∧ Below W.heap.size W w') (hl : LM.length = L.length) (hl2 : L.length ≤ 1152) (HO0 : ∀ W, Calls Try.prog 21 #[.agg #[.int .i64 k, .int .i64 n]] W fun e w' => ∃ AS cS AT cT, e = .returned (.tuple #[.agg #[.slice AS L.length cS, .slice AT L'.length cT], .int .i64 0]) ∧ RdZ w' w'.heap.size AS cS L ∧ RdZ w' w'.heap.size AT cT L' ∧ Below W.heap.size W w')
    (HP0 : ∀ W, Calls Try.prog 25 #[.agg #[.int .i64 k, .int .i64 n]] W fun e w' => ∃ g c, e = .returned (.tuple #[.slice (some ⟨g, 0, none⟩) L.length c, .int .i64 0]) ∧ RdM w' w'.heap.size g LM ∧ Below W.heap.size W w')
    (HM0 : ∀ i, i < L.length → ∃ a b c d, LM.getD i (0, 0, 0, 0) = (a, b, c, d) ∧ MovK L L' (0 : Int) a b c d (i : Nat) 0) :
    Calls Try.prog 8 #[.agg #[.int .i64 k, .int .i64 n]] w fun e w' => e = .returned (.bool true) ∧ Below w.heap.size w w' := by
  have HG := Lib.hid HG0
  have HO := Lib.hid HO0
  have HP := Lib.hid HP0
  have HM := Lib.hid HM0
  have T0 : Hid ((w.alloc (.cells #[.int .i64 k, .int .i64 n] 24)).heap[w.heap.size]? = some (.cells #[.int .i64 k, .int .i64 n] 24 (0, 0))) := heap_alloc_new w _
  clear HG0 HO0 HP0 HM0
  go_enter Try.func8, Try.ntmps8
  go_wp2_with (first
    | (go_at_call 23; ((with_reducible refine (HG.out _).mono ?_); rintro e w1 ⟨rfl, hb⟩; have HB1 : Hid (Below w.heap.size w w1) := bel1 (Below.refl _ _) hb; have T1 := Lib.hid (block_below T0.out hb); clear hb))
    | (go_at_call 12; ((with_reducible refine (awake_any _).mono ?_); rintro e w2 ⟨rfl, hb⟩; have HB2 := Lib.hid (bel0 HB1.out hb); have T2 := Lib.hid (block_below T1.out hb); obtain ⟨⟨t1, t2⟩, _⟩ := two_of_block T2.out; clear hb))
    | (go_at_call 21; ((with_reducible refine (HO.out _).mono ?_); rintro e w3 ⟨AS, cS, AT, cT, rfl, d1, d2, hb⟩; have HB3 : Hid (Below w.heap.size w (w3.alloc (.cells #[.slice AS L.length cS, .slice AT L'.length cT] 47))) := bel0 (bel0 HB2.out hb) (below1 _ _); have T3 := Lib.hid (block_alloc (block_below T2.out hb) (.cells #[.slice AS L.length cS, .slice AT L'.length cT] 47)); have X3 : Hid ((w3.alloc (.cells #[.slice AS L.length cS, .slice AT L'.length cT] 47)).heap[w3.heap.size]? = some (.cells #[.slice AS L.length cS, .slice AT L'.length cT] 47)) := heap_alloc_new w3 _; have D3 : Hid (RdZ (w3.alloc (.cells #[.slice AS L.length cS, .slice AT L'.length cT] 47)) (w3.alloc (.cells #[.slice AS L.length cS, .slice AT L'.length cT] 47)).heap.size AS cS L ∧ RdZ (w3.alloc (.cells #[.slice AS L.length cS, .slice AT L'.length cT] 47)) (w3.alloc (.cells #[.slice AS L.length cS, .slice AT L'.length cT] 47)).heap.size AT cT L') := ⟨krdz d1 (below1 w3 (.cells #[.slice AS L.length cS, .slice AT L'.length cT] 47)), krdz d2 (below1 w3 (.cells #[.slice AS L.length cS, .slice AT L'.length cT] 47))⟩; clear t1 t2; obtain ⟨⟨t1, t2⟩, _⟩ := two_of_block T3.out; clear hb d1 d2))
    | (go_at_call 25; ((with_reducible refine (HP.out _).mono ?_); rintro e w4 ⟨gl, cl, rfl, hr, hb⟩; have HB4 := Lib.hid (bel0 HB3.out hb); have X4 := Lib.hid (block_below X3.out hb); have D4 := Lib.hid (And.intro (krdz D3.out.1 hb) (krdz D3.out.2 hb)); have R4 := Lib.hid hr; obtain ⟨⟨x1, x2⟩, _⟩ := two_of_block X4.out; clear t1 t2 hb hr))
    | fail)
  go_loopw [7, 8, 9] (fun I _ _ wr => ∃ i : Nat, I = .int .i64 (i : Nat) ∧ i ≤ L.length ∧ Hid (Below w4.heap.size w4 wr)) (fun I _ _ _ => L.length - (intOf I).toNat)
  case atStart => exact ⟨0, rfl, Nat.zero_le _, Below.refl _ _⟩
  case round =>
    obtain ⟨i, rfl, hi, HW⟩ := hrel
    by_cases hlt : i < L.length
    · have hii : (i : Int) < (L.length : Int) := by omega
      obtain ⟨a, b, c, d, he, hmv⟩ := HM.out i hlt
      have hR := (R4.out.up HW.out).2 i (by omega)
      rw [he] at hR
      obtain ⟨q1, q2, q3, q4⟩ := hR
      have hgl : gl < w4.heap.size := R4.out.1
      have HS0 : Hid (∀ {W : World}, Below w4.heap.size w4 W → (W.cell? ⟨w3.heap.size, 0, none⟩ = some (.slice AS L.length cS) ∧ W.cell? ⟨w3.heap.size, 1, none⟩ = some (.slice AT L'.length cT)) ∧ (W.cell? ⟨gl, i * 4, none⟩ = some (.int .i64 a) ∧ W.cell? ⟨gl, i * 4 + 1, none⟩ = some (.int .i64 b) ∧ W.cell? ⟨gl, i * 4 + 2, none⟩ = some (.int .i64 c) ∧ W.cell? ⟨gl, i * 4 + 3, none⟩ = some (.int .i64 d))) := fun {W} hb => by
        have h9 := (R4.out.up hb).2 i (by omega)
        rw [he] at h9
        exact ⟨(two_of_block (block_below X4.out hb)).1, h9⟩
      have HMv : Hid (∀ {W : World}, Below w4.heap.size w4 W → Calls Try.prog 29 #[.agg #[.slice AS L.length cS, .slice AT L'.length cT], .int .i64 0, .agg #[.int .i64 a, .int .i64 b, .int .i64 c, .int .i64 d]] W fun e w' => e = .returned (.tuple #[.int .i64 (i : Nat), .int .i64 0]) ∧ Below W.heap.size W w') := fun {W} hb =>
        hmv W AS cS AT cT (krdz D4.out.1 hb) (krdz D4.out.2 hb)
      have B_0 : Hid (Below w4.heap.size w4 wr.drew) := HW.out.drew
      clear q1 q2 q3 q4 he hmv
      go_upto_region 12 with fail
      go_cut [8, 9] (fun s8 s9 wx => s8 = .int .i64 (i : Nat) ∧ s9 = .int .i64 0 ∧ Hid (Below w4.heap.size w4 wx))
      case first =>
        go_region_held3 (fun w' => (w'.cell? ⟨w3.heap.size, 0, none⟩ = some (.slice AS L.length cS) ∧ w'.cell? ⟨w3.heap.size, 1, none⟩ = some (.slice AT L'.length cT)) ∧ (w'.cell? ⟨gl, i * 4, none⟩ = some (.int .i64 a) ∧ w'.cell? ⟨gl, i * 4 + 1, none⟩ = some (.int .i64 b) ∧ w'.cell? ⟨gl, i * 4 + 2, none⟩ = some (.int .i64 c) ∧ w'.cell? ⟨gl, i * 4 + 3, none⟩ = some (.int .i64 d)))
          (with_reducible first | exact HS0.out B_0.out | exact HS0.out B_1.out | fail)
          (first
            | (go_at_call 29; ((with_reducible refine (HMv.out B_0.out).mono ?_); rintro e z1 ⟨rfl, hb⟩; have B_1 := Lib.hid (bel0 B_0.out hb); clear hb))
            | fail)
        all_goals
          go_wp2_with fail
          go_meet
          exact ⟨rfl, rfl, B_1⟩
      case rest =>
        obtain ⟨rfl, rfl, HW2⟩ := hcut
        go_wp2
        go_roundw
        case rel => exact ⟨i + 1, by go_num, hlt, HW2⟩
        case measure => simp [intOf]; omega
    · obtain rfl : i = L.length := by omega
      have hk2 : ¬ (L.length : Int) < (L.length : Int) := by omega
      go_wp2
      go_ret
      exact ⟨rfl, bel0 HB4.out HW.out⟩
theorem lrep_walk (k n : Int) (w : World) :
    Calls Try.prog 8 #[.agg #[.int .i64 k, .int .i64 n]] w fun e w' => e = .returned (.bool true) ∧ Below w.heap.size w w' := by
  by_cases hg : grI k n = true
  · exact lrep_great w fun W => by rw [← hg]; exact great_any k n W
  · have hg' : grI k n = false := by simpa using hg
    have HG := fun W => great_any k n W
    rw [hg'] at HG
    by_cases hz : ckxI k n = 0
    · obtain ⟨hF, hN, _⟩ := ckx_kf hz
      have hl : (olL k n).length = (olS k n).length := by rw [ol_len.1]; exact hF.fin.len
      refine lrep_ok w HG hl (by rw [ol_len.1]; exact hN) (fun W => of_ok hz W) (fun W => ?_) fun i hi => rep_mv hz (by omega)
      have := reps_ok hz W
      rwa [hl] at this
    · exact lrep_err w HG hz (fun W => of_err hz W) fun W => reps_bad W hz fun W' => ckx_any k n W'
end Go.Proofs.Ytilfkppapimocaa
namespace Go.Proofs.Ytilfkppapimocaa
open Go.RowKit
set_option linter.unusedVariables false

structure RW (w wr : World) (ab : Nat) (k n : Int) (R : List M4) (vl vS vT : Value) (S T : List Nat) : Prop where
  grp : wr.heap[w.heap.size]? = some (.cells #[.int .i64 k, .int .i64 n] 24 (0, 0))
  res : wr.heap[w.heap.size + 1]? = some (.cells #[.slice none 0 0, .slice none 0 0] 47 (0, 0))
  a : AB wr w.heap.size ab vS vT S T
  l : wr.ownsRow w.heap.size 26 4 vl R.length (ms R)
  bel : Below w.heap.size w wr
  nb : w.heap.size + 1 < ab
/-- With the box of the matrix at hand. -/
structure RB (w wr : World) (ab tb : Nat) (k n : Int) (R : List M4) (vl vS vT : Value) (S T : List Nat) (m : M4) : Prop where
  r : RW w wr ab k n R vl vS vT S T
  f : Four wr tb m.1 m.2.1 m.2.2.1 m.2.2.2
  ne : vl.ownBlock ≠ some tb
  ge : w.heap.size ≤ tb
section
variable {w wr w' : World} {ab tb : Nat} {k n : Int} {R : List M4} {S T : List Nat} {vl vS vT : Value} {m : M4}
theorem RW.bs (h : RW w wr ab k n R vl vS vT S T) : w.heap.size ≤ wr.heap.size := h.bel.size
theorem RW.below (h : RW w wr ab k n R vl vS vT S T) (hb : Below wr.heap.size wr w') : RW w w' ab k n R vl vS vT S T :=
  ⟨block_below h.grp hb, block_below h.res hb, h.a.below hb, row_below h.l hb, h.bel.trans (hb.mono h.bs), h.nb⟩
theorem RB.below (h : RB w wr ab tb k n R vl vS vT S T m) (hb : Below wr.heap.size wr w') : RB w w' ab tb k n R vl vS vT S T m := ⟨h.r.below hb, h.f.below hb, h.ne, h.ge⟩
theorem RB.drew (h : RB w wr ab tb k n R vl vS vT S T m) : RB w wr.drew ab tb k n R vl vS vT S T m := h.below ((Below.refl _ wr).drew)
theorem RB.alloc (h : RB w wr ab tb k n R vl vS vT S T m) (o : Obj) : RB w (wr.alloc o) ab tb k n R vl vS vT S T m := h.below (below1 _ _)
theorem RW.box (h : RW w wr ab k n R vl vS vT S T) (m : M4) : RB w (wr.alloc (.cells #[.int .i64 m.1, .int .i64 m.2.1, .int .i64 m.2.2.1, .int .i64 m.2.2.2] 26)) ab wr.heap.size k n R vl vS vT S T m := by
  refine ⟨h.below (below1 _ _), Four.at wr rfl _ _ _ _, fun e => ?_, h.bs⟩
  obtain ⟨_, cur, hc⟩ := row_lt h.l e
  have := lt_of_block hc
  omega
/-- A change of some blocks that are none of these. -/
theorem RW.ch {E : Nat → Prop} (h : RW w wr ab k n R vl vS vT S T) (hC : CH wr w' E) (h1 : ¬ E w.heap.size) (h2 : ¬ E (w.heap.size + 1)) (h3 : ¬ E ab) (h4 : ∀ g, vS.ownBlock = some g → ¬ E g) (h5 : ∀ g, vT.ownBlock = some g → ¬ E g) (h6 : ∀ g, vl.ownBlock = some g → ¬ E g) (h7 : ∀ i, E i → w.heap.size ≤ i) : RW w w' ab k n R vl vS vT S T :=
  ⟨hC.cells h.grp h1, hC.cells h.res h2, h.a.ch hC h3 h4 h5, hC.row h.l h6, h.bel.trans (hC.below h7 h.bs), h.nb⟩
/-- A store into the box of the matrix. -/
theorem RB.set4 (h : RB w wr ab tb k n R vl vS vT S T m) (q : M4) : RB w ((((wr.setCell ⟨tb, 0, none⟩ (.int .i64 q.1)).setCell ⟨tb, 1, none⟩ (.int .i64 q.2.1)).setCell ⟨tb, 2, none⟩ (.int .i64 q.2.2.1)).setCell ⟨tb, 3, none⟩ (.int .i64 q.2.2.2)) ab tb k n R vl vS vT S T q := by
  have hC : CH wr ((((wr.setCell ⟨tb, 0, none⟩ (.int .i64 q.1)).setCell ⟨tb, 1, none⟩ (.int .i64 q.2.1)).setCell ⟨tb, 2, none⟩ (.int .i64 q.2.2.1)).setCell ⟨tb, 3, none⟩ (.int .i64 q.2.2.2)) (fun i => i = tb) :=
    ⟨by simp, rfl, rfl, rfl, fun i hi he => set4_ne rfl he _ _ _ _⟩
  refine ⟨h.r.ch hC (ty_ne h.r.grp h.f (by decide)) (ty_ne h.r.res h.f (by decide)) (ty_ne h.r.a.a h.f (by decide)) (fun g hg => ?_) (fun g hg => ?_) (fun g hg e => h.ne (by rw [hg, e])) (fun i e => by rw [e]; exact h.ge), four_set h.f _ _ _ _, h.ne, h.ge⟩
  · obtain ⟨_, cur, hc⟩ := row_lt h.r.a.rS hg
    exact ty_ne hc h.f (by decide)
  · obtain ⟨_, cur, hc⟩ := row_lt h.r.a.rT hg
    exact ty_ne hc h.f (by decide)
/-- The matrix is put at the end of the list. -/
theorem RB.push (h : RB w wr ab tb k n R vl vS vT S T m) {o : Obj} {v' : Value} (hown : w'.ownsRow w.heap.size 26 4 v' (R.length + 1) (ms R ++ mc m)) (hg : (wr.alloc o).grownBy w' vl.ownBlock) (hat : v'.ownBlock = vl.ownBlock ∨ v'.ownBlock = some (wr.alloc o).heap.size) : RB w w' ab tb k n (R ++ [m]) v' vS vT S T m := by
  have hs := hg.size
  simp at hs
  have hC : CH wr w' (fun i => some i = vl.ownBlock) :=
    ⟨by omega, hg.os, hg.tape, hg.output, fun i hi he => (hg.block i (by simp; omega) he).trans ((below1 wr o).block i hi)⟩
  have ne : ∀ {i : Nat} {cs : Array Value} {u : TypeId}, wr.heap[i]? = some (.cells cs u (0, 0)) → u ≠ 26 → ¬ some i = vl.ownBlock := fun hc h1 => row_ne h.r.l hc h1
  refine ⟨⟨hC.cells h.r.grp (ne h.r.grp (by decide)), hC.cells h.r.res (ne h.r.res (by decide)), h.r.a.ch hC (ne h.r.a.a (by decide)) (fun g hg' => ?_) (fun g hg' => ?_), ?_, h.r.bel.trans (hC.below (fun i e => (row_lt h.r.l e.symm).1) h.r.bs), h.r.nb⟩, hC.cells h.f (fun e => h.ne e.symm), ?_, h.ge⟩
  · obtain ⟨_, cur, hc⟩ := row_lt h.r.a.rS hg'
    exact ne hc (by decide)
  · obtain ⟨_, cur, hc⟩ := row_lt h.r.a.rT hg'
    exact ne hc (by decide)
  · rw [List.length_append, show ms (R ++ [m]) = ms R ++ mc m from by simp [ms]]
    exact hown
  · rcases hat with e | e
    · rw [e]; exact h.ne
    · rw [e]
      intro h9
      have h8 := lt_of_block h.f
      injection h9 with h9
      simp at h9
      omega
theorem RB.app (h : RB w wr ab tb k n R vl vS vT S T m) {u : Value} (hv : u = vS ∨ u = vT) {o : Obj} (hg : (wr.alloc o).grownBy w' u.ownBlock) : w'.heap[ab]? = some (.cells #[vS, vT] 47 (0, 0)) := by
  refine (hg.block _ (by have := lt_of_block h.r.a.a; simp; omega) ?_).trans (block_alloc h.r.a.a o)
  rcases hv with rfl | rfl
  · exact row_ne h.r.a.rS h.r.a.a (by decide)
  · exact row_ne h.r.a.rT h.r.a.a (by decide)
theorem RB.pushS (h : RB w wr ab tb k n R vl vS vT S T m) {x : Nat} {v' : Value} {o : Obj} (hown : w'.ownsRow w.heap.size 3 1 v' (S.length + 1) (is S ++ [.int .i64 (x : Nat)])) (hg : (wr.alloc o).grownBy w' vS.ownBlock) (hat : v'.ownBlock = vS.ownBlock ∨ v'.ownBlock = some (wr.alloc o).heap.size) :
    RW w (w'.setCell ⟨ab, 0, none⟩ v') ab k n R vl v' vT (S ++ [x]) T := by
  have ha := h.app (.inl rfl) hg
  have hs := hg.size
  simp at hs
  have hC : CH wr (w'.setCell ⟨ab, 0, none⟩ v') (fun i => i = ab ∨ some i = vS.ownBlock) :=
    ⟨by simp; omega, hg.os, hg.tape, hg.output, fun i hi he => set_ne ((hg.block i (by simp; omega) (fun e => he (.inr e))).trans ((below1 wr o).block i hi)) (fun e => he (.inl e)) _⟩
  have nb : ∀ {i : Nat} {cs : Array Value} {t : TypeId}, w'.heap[i]? = some (.cells cs t (0, 0)) → t ≠ 47 → i ≠ ab := fun hc ht e => ty_ne hc ha ht e
  have old : ∀ {i : Nat} {cs : Array Value} {t : TypeId}, wr.heap[i]? = some (.cells cs t (0, 0)) → some i ≠ vS.ownBlock → w'.heap[i]? = some (.cells cs t (0, 0)) := fun hc hne => (hg.block _ (by have := lt_of_block hc; simp; omega) hne).trans (block_alloc hc o)
  have c : ∀ {i : Nat} {cs : Array Value} {t : TypeId}, wr.heap[i]? = some (.cells cs t (0, 0)) → t ≠ 47 → t ≠ 3 → ¬ (i = ab ∨ some i = vS.ownBlock) := fun hc h1 h2 => by
    rintro (e | e)
    · exact ty_ne hc h.r.a.a h1 e
    · exact row_ne h.r.a.rS hc h2 e
  have hnb := h.r.nb
  refine ⟨hC.cells h.r.grp (c h.r.grp (by decide) (by decide)), hC.cells h.r.res ?_, ⟨?_, ?_, ?_, fun g' h1 h2 => ?_, h.r.a.ge⟩, hC.row h.r.l (fun g' hg' => ?_), h.r.bel.trans (hC.below ?_ h.r.bs), h.r.nb⟩
  · rintro (e | e)
    · omega
    · exact row_ne h.r.a.rS h.r.res (by decide) e
  · exact heap_setCell_same _ ab 0 #[vS, vT] _ _ ha
  · rw [show (S ++ [x]).length = S.length + 1 from by simp, show is (S ++ [x]) = is S ++ [.int .i64 (x : Nat)] from by simp [is]]
    exact row_keep hown fun g' h1 => by
      obtain ⟨_, cur, hc⟩ := row_lt hown h1
      exact set_ne rfl (nb hc (by decide)) _
  · refine row_keep h.r.a.rT fun g' h1 => ?_
    obtain ⟨_, cur, hc⟩ := row_lt h.r.a.rT h1
    have h2 : some g' ≠ vS.ownBlock := fun e => h.r.a.ap g' e.symm h1
    have h3 := old hc h2
    exact (set_ne h3 (nb h3 (by decide)) _).trans hc.symm
  · obtain ⟨_, cur, hc⟩ := row_lt h.r.a.rT h2
    rcases hat with e | e
    · exact h.r.a.ap g' (e.symm.trans h1) h2
    · have h9 : g' < wr.heap.size := lt_of_block hc
      rw [h1] at e
      injection e with e
      simp at e
      omega
  · obtain ⟨_, cur, hc⟩ := row_lt h.r.l hg'
    exact c hc (by decide) (by decide)
  · rintro i (e | e)
    · rw [e]; exact h.r.a.ge
    · exact (row_lt h.r.a.rS e.symm).1
theorem RB.pushT (h : RB w wr ab tb k n R vl vS vT S T m) {x : Nat} {v' : Value} {o : Obj} (hown : w'.ownsRow w.heap.size 3 1 v' (T.length + 1) (is T ++ [.int .i64 (x : Nat)])) (hg : (wr.alloc o).grownBy w' vT.ownBlock) (hat : v'.ownBlock = vT.ownBlock ∨ v'.ownBlock = some (wr.alloc o).heap.size) :
    RW w (w'.setCell ⟨ab, 1, none⟩ v') ab k n R vl vS v' S (T ++ [x]) := by
  have ha := h.app (.inr rfl) hg
  have hs := hg.size
  simp at hs
  have hC : CH wr (w'.setCell ⟨ab, 1, none⟩ v') (fun i => i = ab ∨ some i = vT.ownBlock) :=
    ⟨by simp; omega, hg.os, hg.tape, hg.output, fun i hi he => set_ne ((hg.block i (by simp; omega) (fun e => he (.inr e))).trans ((below1 wr o).block i hi)) (fun e => he (.inl e)) _⟩
  have nb : ∀ {i : Nat} {cs : Array Value} {t : TypeId}, w'.heap[i]? = some (.cells cs t (0, 0)) → t ≠ 47 → i ≠ ab := fun hc ht e => ty_ne hc ha ht e
  have old : ∀ {i : Nat} {cs : Array Value} {t : TypeId}, wr.heap[i]? = some (.cells cs t (0, 0)) → some i ≠ vT.ownBlock → w'.heap[i]? = some (.cells cs t (0, 0)) := fun hc hne => (hg.block _ (by have := lt_of_block hc; simp; omega) hne).trans (block_alloc hc o)
  have c : ∀ {i : Nat} {cs : Array Value} {t : TypeId}, wr.heap[i]? = some (.cells cs t (0, 0)) → t ≠ 47 → t ≠ 3 → ¬ (i = ab ∨ some i = vT.ownBlock) := fun hc h1 h2 => by
    rintro (e | e)
    · exact ty_ne hc h.r.a.a h1 e
    · exact row_ne h.r.a.rT hc h2 e
  have hnb := h.r.nb
  refine ⟨hC.cells h.r.grp (c h.r.grp (by decide) (by decide)), hC.cells h.r.res ?_, ⟨?_, ?_, ?_, fun g' h1 h2 => ?_, h.r.a.ge⟩, hC.row h.r.l (fun g' hg' => ?_), h.r.bel.trans (hC.below ?_ h.r.bs), h.r.nb⟩
  · rintro (e | e)
    · omega
    · exact row_ne h.r.a.rT h.r.res (by decide) e
  · exact heap_setCell_same _ ab 1 #[vS, vT] _ _ ha
  · refine row_keep h.r.a.rS fun g' h1 => ?_
    obtain ⟨_, cur, hc⟩ := row_lt h.r.a.rS h1
    have h2 : some g' ≠ vT.ownBlock := fun e => h.r.a.ap g' h1 e.symm
    have h3 := old hc h2
    exact (set_ne h3 (nb h3 (by decide)) _).trans hc.symm
  · rw [show (T ++ [x]).length = T.length + 1 from by simp, show is (T ++ [x]) = is T ++ [.int .i64 (x : Nat)] from by simp [is]]
    exact row_keep hown fun g' h1 => by
      obtain ⟨_, cur, hc⟩ := row_lt hown h1
      exact set_ne rfl (nb hc (by decide)) _
  · obtain ⟨_, cur, hc⟩ := row_lt h.r.a.rS h1
    rcases hat with e | e
    · exact h.r.a.ap g' h1 (e.symm.trans h2)
    · have h9 : g' < wr.heap.size := lt_of_block hc
      rw [h2] at e
      injection e with e
      simp at e
      omega
  · obtain ⟨_, cur, hc⟩ := row_lt h.r.l hg'
    exact c hc (by decide) (by decide)
  · rintro i (e | e)
    · rw [e]; exact h.r.a.ge
    · exact (row_lt h.r.a.rT e.symm).1
end
end Go.Proofs.Ytilfkppapimocaa
namespace Go.Proofs.Ytilfkppapimocaa
open Go.RowKit
set_option linter.unusedVariables false
set_option linter.unusedSimpArgs false

def StopO (p : Prop) : Prop := p
theorem stopO {p : Prop} (h : StopO p) : p := h
/-- The list, and what is written down, within a round. -/
def oL (k n : Int) (R : List M4) (m : M4) : Nat → List M4
  | 0 => R
  | 1 => nxR k n R (mdM n (mS m))
  | _ => nxR k n (nxR k n R (mdM n (mS m))) (mdM n (mT m))
def oS (S : List Nat) (x : Nat) (j : Nat) : List Nat := if j = 0 then S else S ++ [x]
def oT (T : List Nat) (y : Nat) (j : Nat) : List Nat := if j ≤ 1 then T else T ++ [y]
def jOf (b : Bool) (j : Nat) : Prop := j = if b = true then 1 else 0
def stM (j : Nat) : M4 := if j = 0 then (0, -1, 1, 0) else (1, 1, 0, 1)
theorem mulM_st0 (m : M4) : mulM m (0, -1, 1, 0) = mS m := by
  obtain ⟨a, b, c, d⟩ := m
  simp [mulM, mS]
theorem mulM_st1 (m : M4) : mulM m (1, 1, 0, 1) = mT m := by
  obtain ⟨a, b, c, d⟩ := m
  simp [mulM, mT]
/-- Reduced matrices. -/
def rdB (n : Int) (L : List M4) : Prop := ∀ y ∈ L, (0 ≤ y.1 ∧ y.1 < n) ∧ (0 ≤ y.2.1 ∧ y.2.1 < n) ∧ (0 ≤ y.2.2.1 ∧ y.2.2.1 < n) ∧ (0 ≤ y.2.2.2 ∧ y.2.2.2 < n)
theorem md_bd {n : Int} (n1 : 1 ≤ n) (x : M4) : (0 ≤ (mdM n x).1 ∧ (mdM n x).1 < n) ∧ (0 ≤ (mdM n x).2.1 ∧ (mdM n x).2.1 < n) ∧ (0 ≤ (mdM n x).2.2.1 ∧ (mdM n x).2.2.1 < n) ∧ (0 ≤ (mdM n x).2.2.2 ∧ (mdM n x).2.2.2 < n) := by
  have h : ∀ z : Int, 0 ≤ z % n ∧ z % n < n := fun z => ⟨Int.emod_nonneg _ (by omega), Int.emod_lt_of_pos _ (by omega)⟩
  exact ⟨h _, h _, h _, h _⟩
theorem nx_rd {k n : Int} (n1 : 1 ≤ n) {L : List M4} (h : rdB n L) (x : M4) : rdB n (nxR k n L (mdM n x)) := by
  unfold nxR
  split
  · intro y hy
    rcases List.mem_append.1 hy with hy | hy
    · exact h y hy
    · rw [List.mem_singleton.1 hy]; exact md_bd n1 x
  · exact h
theorem nx_get {k n : Int} {L : List M4} {t : M4} {i : Nat} (hi : i < L.length) : i < (nxR k n L t).length ∧ (nxR k n L t).getD i (0, 0, 0, 0) = L.getD i (0, 0, 0, 0) := by
  unfold nxR
  split
  · refine ⟨by simp; omega, ?_⟩
    simp [List.getD_eq_getElem?_getD, List.getElem?_append_left hi]
  · exact ⟨hi, rfl⟩
theorem nx_len (k n : Int) (L : List M4) (t : M4) : L.length ≤ (nxR k n L t).length ∧ (nxR k n L t).length ≤ L.length + 1 := by
  unfold nxR
  split
  · simp
  · omega
theorem oL_all {k n : Int} (n1 : 1 ≤ n) {R : List M4} (h : rdB n R) {i : Nat} (hi : i < R.length) (m : M4) : ∀ j, j ≤ 2 → rdB n (oL k n R m j) ∧ i < (oL k n R m j).length ∧ (oL k n R m j).getD i (0, 0, 0, 0) = R.getD i (0, 0, 0, 0) ∧ (oL k n R m j).length ≤ R.length + 2 := by
  intro j hj
  obtain ⟨g1, g2⟩ := nx_get (k := k) (n := n) (t := mdM n (mS m)) hi
  obtain ⟨g3, g4⟩ := nx_get (k := k) (n := n) (t := mdM n (mT m)) g1
  have l1 := nx_len k n R (mdM n (mS m))
  have l2 := nx_len k n (nxR k n R (mdM n (mS m))) (mdM n (mT m))
  match j, hj with
  | 0, _ => exact ⟨h, hi, rfl, by show R.length ≤ _; omega⟩
  | 1, _ => exact ⟨nx_rd n1 h _, g1, g2, by show (nxR k n R (mdM n (mS m))).length ≤ _; omega⟩
  | 2, _ => exact ⟨nx_rd n1 (nx_rd n1 h _) _, g3, g4.trans g2, by show (nxR k n (nxR k n R (mdM n (mS m))) (mdM n (mT m))).length ≤ _; omega⟩
theorem rf_rd {k n : Int} {i : Nat} {R : List M4} {S T : List Nat} (n1 : 1 ≤ n) (h : RfI k n i R S T) : rdB n R := by
  intro y hy
  rw [h.r] at hy
  obtain ⟨x, _, rfl⟩ := List.mem_map.1 hy
  exact md_bd n1 x
theorem rf_len {k n : Int} {i : Nat} {R : List M4} {S T : List Nat} (h : RfI k n i R S T) : R.length ≤ 2 * i + 1 ∧ S.length = i ∧ T.length = i := by
  obtain ⟨l1, l2, l3⟩ := srun_len (kco k n) i
  have l4 := srun_le (kco k n) i
  refine ⟨by rw [h.r, List.length_map]; omega, by rw [h.s]; exact l2, by rw [h.t]; exact l3⟩
theorem at_is {k n : Int} {L : List M4} {t : M4} {p : Nat} (hp : p ≤ L.length) (h1 : ∀ q, q < p → hasM k n (mulM t (bckM (L.getD q (0, 0, 0, 0)))) = false) (h2 : p = L.length ∨ (p < L.length ∧ hasM k n (mulM t (bckM (L.getD p (0, 0, 0, 0)))) = true)) : atR k n L t = p := by
  unfold atR
  have e : ∀ q (hq : q < L.length), L.getD q (0, 0, 0, 0) = L[q] := fun q hq => by simp [List.getD_eq_getElem?_getD, hq]
  rcases h2 with h2 | ⟨h2, h3⟩
  · rw [h2, List.findIdx_eq_length]
    intro y hy
    obtain ⟨q, hq, rfl⟩ := List.mem_iff_getElem.1 hy
    have := h1 q (by omega)
    rw [e q hq] at this
    simpa using this
  · rw [List.findIdx_eq h2]
    refine ⟨by rw [← e p h2]; exact h3, fun q hq => ?_⟩
    have := h1 q hq
    rw [e q (by omega)] at this
    exact this
theorem rw_start {w w3 : World} {k n : Int} (m : M4) (hb : Below w.heap.size w w3) (hg : w3.heap[w.heap.size]? = some (.cells #[.int .i64 k, .int .i64 n] 24 (0, 0))) (hr : w3.heap[w.heap.size + 1]? = some (.cells #[.slice none 0 0, .slice none 0 0] 47 (0, 0))) :
    RW w ((w3.alloc (.cells #[.int .i64 m.1, .int .i64 m.2.1, .int .i64 m.2.2.1, .int .i64 m.2.2.2] 26)).alloc (.cells #[.slice none 0 0, .slice none 0 0] 47)) (w3.heap.size + 1) k n [m] (.slice (some ⟨w3.heap.size, 0, none⟩) 1 1) (.slice none 0 0) (.slice none 0 0) [] [] := by
  have h1 := lt_of_block hr
  have at_ : ∀ (W : World) (o : Obj) {g : Nat}, g = W.heap.size → (W.alloc o).heap[g]? = some o := fun W o g hg => by rw [hg]; exact heap_alloc_new W o
  refine ⟨block_alloc (block_alloc hg _) _, block_alloc (block_alloc hr _) _, ⟨at_ _ _ (by simp), ⟨rfl, .inl ⟨rfl, rfl⟩⟩, ⟨rfl, .inl ⟨rfl, rfl⟩⟩, fun g h => by simp [Value.ownBlock] at h, by omega⟩, ⟨rfl, .inr ⟨w3.heap.size, 1, _, rfl, by omega, block_alloc (heap_alloc_new w3 _) _, Nat.le_refl 1, by unfold maxLen; omega, rfl, rfl⟩⟩, hb.trans ((below2 w3 _ _).mono (by omega)), by omega⟩
theorem row_eq {W : World} {b : Nat} {e : TypeId} {v : Value} {m : Nat} {S X : List Nat} (e1 : S.length = m) (e2 : S = X) (h : W.ownsRow b e 1 v S.length (is S)) : W.ownsRow b e 1 v m (is X) := by
  subst e2 e1; exact h
theorem infoMt : (Try.prog.info? 26).map (fun i => (i.zero, i.size, i.bytes)) = some (some (.agg #[.int .i64 0, .int .i64 0, .int .i64 0, .int .i64 0]), 4, 32) := by kernel_rfl
set_option maxHeartbeats 12800000 in
set_option maxRecDepth 1000000 in
theorem rof_any {k n : Int} {N : Nat} (w : World) (hk : 1 ≤ k ∧ k ≤ 4) (n1 : 1 ≤ n) (n2 : n ≤ 120) (hC : Cos (kco k n)) (hF : SFin (kco k n) N) (hN : N ≤ 1152)
    (HI0 : ∀ W, Calls Try.prog 20 #[.agg #[.int .i64 k, .int .i64 n]] W fun e w' => e = .returned (.tuple #[.int .i64 (N : Nat), .int .i64 0]) ∧ Below W.heap.size W w') :
    Calls Try.prog 24 #[.agg #[.int .i64 k, .int .i64 n]] w fun e w' => ∃ vS vT vl, e = .returned (.tuple #[.agg #[vS, vT], vl, .int .i64 0]) ∧
      w'.ownsRow w.heap.size 3 1 vS N (is (srun (kco k n) N).S) ∧ w'.ownsRow w.heap.size 3 1 vT N (is (srun (kco k n) N).T) ∧ Below w.heap.size w w' := by
  obtain ⟨i0, hi, z0, z1, z2⟩ := info_parts infoI
  obtain ⟨iM, hiM, y0, y1, y2⟩ := info_parts infoMt
  have HC := Lib.hid hC
  have HFi := Lib.hid hF
  have HI := Lib.hid HI0
  have hNi : (N : Int) ≤ 1152 := by omega
  have hNb : decide ((1152 : Int) < (N : Int)) = false := by simp; omega
  obtain ⟨⟨o1, o2, o3, o4⟩, ho⟩ : ∃ o, o = mdM n (1, 0, 0, 1) := ⟨_, rfl⟩
  have HM1 : Hid (∀ W, Calls Try.prog 47 #[.agg #[.int .i64 1, .int .i64 0, .int .i64 0, .int .i64 1], .int .i64 n] W fun e w' => e = .returned (.agg #[.int .i64 o1, .int .i64 o2, .int .i64 o3, .int .i64 o4]) ∧ Below W.heap.size W w') := fun W => by
    have h := rmod_any n 1 0 0 1 W n1 n2
    have e : (o1, o2, o3, o4) = (1 % n, 0 % n, 0 % n, 1 % n) := ho
    injection e with e1 e; injection e with e2 e; injection e with e3 e4
    rw [e1, e2, e3, e4]
    exact h
  have HO := Lib.hid ho
  clear hC hF HI0 ho
  go_enter Try.func24, Try.ntmps24
  go_upto_block 0 with (first
    | (go_at_call 20; ((with_reducible refine (HI.out _).mono ?_); rintro e w1 ⟨rfl, hb⟩; have T1 : Hid (w1.heap[w.heap.size]? = some (.cells #[.int .i64 k, .int .i64 n] 24 (0, 0))) := block_below (block_alloc (heap_alloc_new w _) _) hb; have R1 : Hid (w1.heap[w.heap.size + 1]? = some (.cells #[.slice none 0 0, .slice none 0 0] 47 (0, 0))) := block_below (by have := heap_alloc_new (w.alloc (.cells #[.int .i64 k, .int .i64 n] 24)) (.cells #[.slice none 0 0, .slice none 0 0] 47); simpa using this) hb; have HB1 : Hid (Below w.heap.size w w1) := bel2 (Below.refl _ _) hb; obtain ⟨⟨t1, t2⟩, _⟩ := two_of_block T1.out; have hz1 := lt_of_block R1.out; clear hb))
    | (go_at_call 48; ((with_reducible refine (r18_One _).mono ?_); rintro e w2 ⟨rfl, hb⟩; have T2 := Lib.hid (block_below T1.out hb); have R2 := Lib.hid (block_below R1.out hb); have HB2 := Lib.hid (bel0 HB1.out hb); clear t1 t2 hb))
    | (go_at_call 47; ((with_reducible refine (HM1.out _).mono ?_); rintro e w3 ⟨rfl, hb⟩; have T3 := Lib.hid (block_below T2.out hb); have R3 := Lib.hid (block_below R2.out hb); have HB3 := Lib.hid (bel0 HB2.out hb); have hz3 := lt_of_block R3.out; clear hb))
    | fail)
  obtain ⟨W1, hW1⟩ : ∃ W1, W1 = ((w3.alloc (.cells #[.int .i64 o1, .int .i64 o2, .int .i64 o3, .int .i64 o4] 26)).alloc (.cells #[.slice none 0 0, .slice none 0 0] 47)) := ⟨_, rfl⟩
  have HSt : Hid (RW w W1 (w3.heap.size + 1) k n [(o1, o2, o3, o4)] (.slice (some ⟨w3.heap.size, 0, none⟩) 1 1) (.slice none 0 0) (.slice none 0 0) [] []) := by
    have h := rw_start (o1, o2, o3, o4) HB3.out T3.out R3.out
    rw [hW1]
    exact Lib.hid h
  have HR0 : Hid (RfI k n 0 [(o1, o2, o3, o4)] [] []) := by
    show RfI k n 0 [(o1, o2, o3, o4)] [] []
    rw [HO.out]; exact RfI.zero k n
  rw [← hW1]
  clear HI HM1 HO T1 T2 T3 R1 R2 R3 HB1 HB2 HB3 hW1
  obtain ⟨g0, hg0⟩ : ∃ g0, g0 = w3.heap.size := ⟨_, rfl⟩
  obtain ⟨ab, hab⟩ : ∃ ab, ab = g0 + 1 := ⟨_, rfl⟩
  rw [← hg0, ← hab] at HSt
  rw [← hg0, ← hab]
  clear hg0 hab hz3 hz1
  go_wp2_with fail
  go_loopw [8, 10, 11, 12, 13] (fun V I _ _ _ wr => ∃ (i c g : Nat) (vS vT : Value) (R : List M4) (S T : List Nat), V = .slice (some ⟨g, 0, none⟩) R.length c ∧ I = .int .i64 (i : Nat) ∧ i ≤ N ∧ Hid (RfI k n i R S T) ∧ Hid (RW w wr ab k n R (.slice (some ⟨g, 0, none⟩) R.length c) vS vT S T)) (fun _ I _ _ _ _ => N - (intOf I).toNat)
  case atStart => exact ⟨0, 1, g0, _, _, [(o1, o2, o3, o4)], [], [], rfl, rfl, Nat.zero_le _, HR0.out, HSt.out⟩
  case round =>
    clear HSt HR0
    obtain ⟨i, c, g, vS, vT, R, S, T, rfl, rfl, hiN, HR, HS⟩ := hrel
    by_cases hlt : i < R.length
    · have hltN : i < N := by
        refine Nat.lt_of_le_of_ne hiN fun e => ?_
        have h := HR.out
        rw [e] at h hlt
        have := h.done HFi.out
        omega
      obtain ⟨hq1, hq2⟩ := RfI.step hk n1 HC.out HFi.out hltN HR.out
      obtain ⟨l1, l2, l3⟩ := rf_len HR.out
      have hrd := rf_rd n1 HR.out
      obtain ⟨⟨m1, m2, m3, m4⟩, hm⟩ : ∃ m, m = R.getD i (0, 0, 0, 0) := ⟨_, rfl⟩
      rw [← hm] at hq2
      have HAll : Hid (∀ j, j ≤ 2 → rdB n (oL k n R (m1, m2, m3, m4) j) ∧ i < (oL k n R (m1, m2, m3, m4) j).length ∧ (oL k n R (m1, m2, m3, m4) j).getD i (0, 0, 0, 0) = (m1, m2, m3, m4) ∧ (oL k n R (m1, m2, m3, m4) j).length ≤ R.length + 2) := by
        show ∀ j, j ≤ 2 → _
        rw [hm]
        exact fun j hj => oL_all n1 hrd hlt _ j hj
      obtain ⟨x, hx⟩ : ∃ x, x = atR k n R (mdM n (mS (m1, m2, m3, m4))) := ⟨_, rfl⟩
      obtain ⟨y, hy⟩ : ∃ y, y = atR k n (nxR k n R (mdM n (mS (m1, m2, m3, m4)))) (mdM n (mT (m1, m2, m3, m4))) := ⟨_, rfl⟩
      have HXe := Lib.hid hx
      have HYe := Lib.hid hy
      rw [← hx, ← hy] at hq2
      have HNx : Hid (RfI k n (i + 1) (oL k n R (m1, m2, m3, m4) 2) (oS S x 2) (oT T y 2)) := hq2
      have HSl := Lib.hid l2
      have HTl := Lib.hid l3
      have hll : (i : Int) < (R.length : Int) := by omega
      have hRl : R.length ≤ 2305 := by omega
      clear hq1 hq2 hx hy hm hrd l1 l2 l3
      go_wp2_with fail
      go_loopw [8, 11, 12, 13] (fun V J _ _ wi => ∃ (j c g : Nat) (vS vT : Value), V = .slice (some ⟨g, 0, none⟩) (oL k n R (m1, m2, m3, m4) j).length c ∧ J = .int .i64 (j : Nat) ∧ j ≤ 2 ∧ Hid (RW w wi ab k n (oL k n R (m1, m2, m3, m4) j) (.slice (some ⟨g, 0, none⟩) (oL k n R (m1, m2, m3, m4) j).length c) vS vT (oS S x j) (oT T y j))) (fun _ J _ _ _ => 2 - (intOf J).toNat)
      case atStart => exact ⟨0, c, g, vS, vT, rfl, rfl, by omega, HS.out⟩
      case round =>
        clear HS
        obtain ⟨j, c', g1, vS, vT, rfl, rfl, hj, HS⟩ := hrel
        by_cases hj2 : j < 2
        · have hji : (j : Int) < 2 := by omega
          obtain ⟨hrd, hiM0, hgt, hml⟩ := HAll.out j hj
          have HJ : Hid (j = 0 ∨ j = 1) := by show j = 0 ∨ j = 1; omega
          obtain ⟨⟨t1, t2, t3, t4⟩, ht⟩ : ∃ t, t = mdM n (mulM (m1, m2, m3, m4) (stM j)) := ⟨_, rfl⟩
          obtain ⟨M, hM⟩ : ∃ M, M = oL k n R (m1, m2, m3, m4) j := ⟨_, rfl⟩
          obtain ⟨S0, hS0⟩ : ∃ S0, S0 = oS S x j := ⟨_, rfl⟩
          obtain ⟨T0, hT0⟩ : ∃ T0, T0 = oT T y j := ⟨_, rfl⟩
          obtain ⟨a0, ha0⟩ : ∃ a0, a0 = atR k n M (t1, t2, t3, t4) := ⟨_, rfl⟩
          have HLn : Hid (oL k n R (m1, m2, m3, m4) (j + 1) = nxR k n M (t1, t2, t3, t4)) := by
            show _ = _
            rw [hM, ht]
            rcases HJ.out with rfl | rfl
            · show nxR k n R (mdM n (mS (m1, m2, m3, m4))) = nxR k n R (mdM n (mulM (m1, m2, m3, m4) (0, -1, 1, 0)))
              rw [mulM_st0]
            · show nxR k n (nxR k n R (mdM n (mS (m1, m2, m3, m4)))) (mdM n (mT (m1, m2, m3, m4))) = nxR k n (nxR k n R (mdM n (mS (m1, m2, m3, m4)))) (mdM n (mulM (m1, m2, m3, m4) (1, 1, 0, 1)))
              rw [mulM_st1]
          have HAx : Hid ((j = 0 → a0 = x) ∧ (j = 1 → a0 = y)) := by
            show _ ∧ _
            refine ⟨fun e => ?_, fun e => ?_⟩
            · subst e
              rw [ha0, HXe.out, hM, ht]
              show atR k n R (mdM n (mulM (m1, m2, m3, m4) (0, -1, 1, 0))) = _
              rw [mulM_st0]
            · subst e
              rw [ha0, HYe.out, hM, ht]
              show atR k n (nxR k n R (mdM n (mS (m1, m2, m3, m4)))) (mdM n (mulM (m1, m2, m3, m4) (1, 1, 0, 1))) = _
              rw [mulM_st1]
          have HSe := Lib.hid hS0
          have HTe := Lib.hid hT0
          have HA0 := Lib.hid ha0
          have HT := Lib.hid ht
          rw [← hM] at hrd hiM0 hgt hml HS ⊢
          rw [← hS0, ← hT0] at HS
          have hml2 : M.length ≤ 2307 := by omega
          have hS0l : S0.length ≤ 1153 := by have := HSl.out; rw [hS0]; unfold oS; split <;> simp <;> omega
          have hT0l : T0.length ≤ 1153 := by have := HTl.out; rw [hT0]; unfold oT; split <;> simp <;> omega
          have hrd0 := Lib.hid hrd
          have hmb : (0 ≤ m1 ∧ m1 < n) ∧ (0 ≤ m2 ∧ m2 < n) ∧ (0 ≤ m3 ∧ m3 < n) ∧ (0 ≤ m4 ∧ m4 < n) := hrd (m1, m2, m3, m4) (by rw [← hgt]; exact getD_inM hiM0)
          have htb : (0 ≤ t1 ∧ t1 < n) ∧ (0 ≤ t2 ∧ t2 < n) ∧ (0 ≤ t3 ∧ t3 < n) ∧ (0 ≤ t4 ∧ t4 < n) := by have h := md_bd n1 (mulM (m1, m2, m3, m4) (stM j)); rw [← ht] at h; exact h
          have HGt := Lib.hid hgt
          clear hM hS0 hT0 ha0 ht hrd hgt hml
          obtain ⟨jb, hjb⟩ : ∃ jb : Bool, jb = decide ((j : Int) = 1) := ⟨_, rfl⟩
          obtain ⟨jz, hjz⟩ : ∃ jz : Bool, jz = decide ((j : Int) = 0) := ⟨_, rfl⟩
          have q1 : decide ((j : Int) = 1) = jb := hjb.symm
          have q2 : ((j : Int) == 1) = jb := by rw [hjb]; rfl
          have q3 : decide ((j : Int) = 0) = jz := hjz.symm
          have q4 : ((j : Int) == 0) = jz := by rw [hjz]; rfl
          have HJb : Hid (jOf jb j) := by
            show j = _
            rw [hjb]
            rcases HJ.out with h | h <;> simp [h]
          have HJz : Hid (jOf (!jz) j) := by
            show j = _
            rw [hjz]
            rcases HJ.out with h | h <;> simp [h]
          clear hjb hjz
          obtain ⟨⟨s1, s2, s3, s4⟩, hs⟩ : ∃ s, s = stM j := ⟨_, rfl⟩
          obtain ⟨⟨p1, p2, p3, p4⟩, hp⟩ : ∃ p, p = mulM (m1, m2, m3, m4) (s1, s2, s3, s4) := ⟨_, rfl⟩
          have HTm : Hid (∀ W, Calls Try.prog 51 #[.agg #[.int .i64 m1, .int .i64 m2, .int .i64 m3, .int .i64 m4], .agg #[.int .i64 s1, .int .i64 s2, .int .i64 s3, .int .i64 s4]] W fun e w' => e = .returned (.agg #[.int .i64 p1, .int .i64 p2, .int .i64 p3, .int .i64 p4]) ∧ Below W.heap.size W w') := fun W => by
            have hsb : fitB s1 s2 s3 s4 = true := by
              have h : (s1, s2, s3, s4) = stM j := hs
              rcases HJ.out with e | e
              · rw [e] at h
                have h' : (s1, s2, s3, s4) = ((0, -1, 1, 0) : M4) := h
                simp only [Prod.mk.injEq] at h'
                obtain ⟨rfl, rfl, rfl, rfl⟩ := h'
                decide
              · rw [e] at h
                have h' : (s1, s2, s3, s4) = ((1, 1, 0, 1) : M4) := h
                simp only [Prod.mk.injEq] at h'
                obtain ⟨rfl, rfl, rfl, rfl⟩ := h'
                decide
            have h := times_yes m1 m2 m3 m4 s1 s2 s3 s4 W (fitB_iff.2 ⟨⟨by omega, by omega⟩, ⟨by omega, by omega⟩, ⟨by omega, by omega⟩, ⟨by omega, by omega⟩⟩) hsb
            simp only [mulM, Prod.mk.injEq] at hp
            obtain ⟨e1, e2, e3, e4⟩ := hp
            rw [e1, e2, e3, e4]
            exact h
          have HMm : Hid (∀ W, Calls Try.prog 47 #[.agg #[.int .i64 p1, .int .i64 p2, .int .i64 p3, .int .i64 p4], .int .i64 n] W fun e w' => e = .returned (.agg #[.int .i64 t1, .int .i64 t2, .int .i64 t3, .int .i64 t4]) ∧ Below W.heap.size W w') := fun W => by
            have h := rmod_any n p1 p2 p3 p4 W n1 n2
            have e : (t1, t2, t3, t4) = mdM n (p1, p2, p3, p4) := by rw [HT.out, hp, hs]
            simp only [mdM, Prod.mk.injEq] at e
            obtain ⟨e1, e2, e3, e4⟩ := e
            rw [e1, e2, e3, e4]
            exact h
          have HSt := Lib.hid hs
          clear hs hp
          go_upto_if 48 with (first
            | (go_at_call 49; ((with_reducible refine (r18_S _).mono ?_); rintro e ws ⟨rfl, hb⟩; have HS1 := Lib.hid (HS.out.below hb); clear hb))
            | fail)
          obtain ⟨tb, htb'⟩ : ∃ tb, tb = ws.heap.size := ⟨_, rfl⟩
          have HB : Hid (RB w (ws.alloc (.cells #[.int .i64 0, .int .i64 (-1), .int .i64 1, .int .i64 0] 26)) ab tb k n M (.slice (some ⟨g1, 0, none⟩) M.length c') vS vT S0 T0 (0, -1, 1, 0)) := by
            rw [htb']; exact Lib.hid (HS1.out.box (0, -1, 1, 0))
          rw [← htb']
          obtain ⟨wa, hwa⟩ : ∃ wa, wa = (ws.alloc (.cells #[.int .i64 0, .int .i64 (-1), .int .i64 1, .int .i64 0] 26)) := ⟨_, rfl⟩
          rw [← hwa] at HB ⊢
          clear hwa htb' HS1 HS
          go_cut [] (fun wx => Hid (RB w wx ab tb k n M (.slice (some ⟨g1, 0, none⟩) M.length c') vS vT S0 T0 (s1, s2, s3, s4)))
          case first =>
            cases jb
            · go_wp2_with fail
              go_meet
              have e : j = 0 := HJb.out
              rw [show (s1, s2, s3, s4) = stM j from HSt.out, e]
              exact HB
            · go_wp2_with (first
                | (go_at_call 50; ((with_reducible refine (r18_T _).mono ?_); rintro e wt ⟨rfl, hb⟩; have HB2 := Lib.hid (HB.out.below hb); obtain ⟨⟨k1, k2, k3, k4⟩, fz⟩ := four_of_block HB2.out.f; have f0 := fz 0; have f1 := fz 1; have f2 := fz 2; have f3 := fz 3; have hzb := lt_of_block HB2.out.f; clear hb fz))
                | fail)
              go_meet
              have e : j = 1 := HJb.out
              rw [show (s1, s2, s3, s4) = stM j from HSt.out, e]
              exact Lib.hid (HB2.out.set4 (1, 1, 0, 1))
          case rest =>
            have HB3 : Hid (RB w wc ab tb k n M (.slice (some ⟨g1, 0, none⟩) M.length c') vS vT S0 T0 (s1, s2, s3, s4)) := hcut
            clear HB hcut
            obtain ⟨g2, cap, hv, hg, r1, r2, r3, r4⟩ := row_at HB3.out.r.l hiM0
            have hMi : M[i] = (m1, m2, m3, m4) := by rw [← HGt.out]; exact (getD_at hiM0).symm
            rw [hMi] at r1 r2 r3 r4
            injection hv with hv1 hv2 hv3
            injection hv1 with hv1
            injection hv1 with hv1
            rw [← hv1] at hg r1 r2 r3 r4
            clear hv1 hv2 hv3
            have HRl : Hid (∀ {W : World}, Below wc.heap.size wc W → W.cell? ⟨g1, i * 4, none⟩ = some (.int .i64 m1) ∧ W.cell? ⟨g1, i * 4 + 1, none⟩ = some (.int .i64 m2) ∧ W.cell? ⟨g1, i * 4 + 2, none⟩ = some (.int .i64 m3) ∧ W.cell? ⟨g1, i * 4 + 3, none⟩ = some (.int .i64 m4)) := fun {W} hb =>
              ⟨(hb.cell (p := ⟨g1, i * 4, none⟩) hg).trans r1, (hb.cell (p := ⟨g1, i * 4 + 1, none⟩) hg).trans r2, (hb.cell (p := ⟨g1, i * 4 + 2, none⟩) hg).trans r3, (hb.cell (p := ⟨g1, i * 4 + 3, none⟩) hg).trans r4⟩
            have hiMi : (i : Int) < (M.length : Int) := by omega
            clear r1 r2 r3 r4 hMi
            go_upto_region 18 with fail
            go_cut [] (fun wx => Hid (RB w wx ab tb k n M (.slice (some ⟨g1, 0, none⟩) M.length c') vS vT S0 T0 (t1, t2, t3, t4)))
            case first =>
              have M_0 := Lib.hid HB3.out.drew
              have BL0 : Hid (Below wc.heap.size wc wc.drew) := (Below.refl _ wc).drew
              refine region_E 7 (fun w' => (w'.cell? ⟨g1, i * 4, none⟩ = some (.int .i64 m1) ∧ w'.cell? ⟨g1, i * 4 + 1, none⟩ = some (.int .i64 m2) ∧ w'.cell? ⟨g1, i * 4 + 2, none⟩ = some (.int .i64 m3) ∧ w'.cell? ⟨g1, i * 4 + 3, none⟩ = some (.int .i64 m4)) ∧ (w'.cell? ⟨tb, 0, none⟩ = some (.int .i64 s1) ∧ w'.cell? ⟨tb, 1, none⟩ = some (.int .i64 s2) ∧ w'.cell? ⟨tb, 2, none⟩ = some (.int .i64 s3) ∧ w'.cell? ⟨tb, 3, none⟩ = some (.int .i64 s4))) (by kernel_rfl) ?_
              have hHeld := And.intro (HRl.out BL0.out) M_0.out.f.cells
              refine take_E (n := 7) (i := 0) (v := ?ve_0) rfl (by kernel_rfl) (fun _ _ _ h => h) ?hye_0 (by rfl) hHeld ?reste_0
              case hye_0 => (intro w9 hSw; (try dsimp only at hSw); go_simp <;> with_reducible rfl)
              (try simp only [List.getElem_toArray, List.getElem_cons_zero, List.getElem_cons_succ, Act.put, List.setIfInBounds_toArray, List.set_cons_zero, List.set_cons_succ])
              refine take_E (n := 7) (i := 1) (v := ?ve_1) rfl (by kernel_rfl) (fun _ _ _ h => h) ?hye_1 (by rfl) hHeld ?reste_1
              case hye_1 => (intro w9 hSw; (try dsimp only at hSw); go_simp <;> with_reducible rfl)
              (try simp only [List.getElem_toArray, List.getElem_cons_zero, List.getElem_cons_succ, Act.put, List.setIfInBounds_toArray, List.set_cons_zero, List.set_cons_succ])
              refine take_E (n := 7) (i := 2) (v := ?ve_2) rfl (by kernel_rfl) (fun _ _ _ h => h) ?hye_2 (by rfl) hHeld ?reste_2
              case hye_2 => (intro w9 hSw; (try dsimp only at hSw); go_simp <;> with_reducible rfl)
              (try simp only [List.getElem_toArray, List.getElem_cons_zero, List.getElem_cons_succ, Act.put, List.setIfInBounds_toArray, List.set_cons_zero, List.set_cons_succ])
              refine take_E (n := 7) (i := 3) (v := ?ve_3) rfl (by kernel_rfl) (fun _ _ _ h => h) ?hye_3 (by rfl) hHeld ?reste_3
              case hye_3 => (intro w9 hSw; (try dsimp only at hSw); go_simp <;> with_reducible rfl)
              (try simp only [List.getElem_toArray, List.getElem_cons_zero, List.getElem_cons_succ, Act.put, List.setIfInBounds_toArray, List.set_cons_zero, List.set_cons_succ])
              refine take_E (n := 7) (i := 4) (v := ?ve_4) rfl (by kernel_rfl) (fun _ _ _ h => h) ?hye_4 (by rfl) hHeld ?reste_4
              case hye_4 => (intro w9 hSw; (try dsimp only at hSw); go_simp <;> with_reducible rfl)
              (try simp only [List.getElem_toArray, List.getElem_cons_zero, List.getElem_cons_succ, Act.put, List.setIfInBounds_toArray, List.set_cons_zero, List.set_cons_succ])
              refine take_E (n := 7) (i := 6) (v := ?ve_6) rfl (by kernel_rfl) (fun _ _ _ h => h) ?hye_6 (by rfl) hHeld ?reste_6
              case hye_6 => (intro w9 hSw; (try dsimp only at hSw); go_simp <;> with_reducible rfl)
              (try simp only [List.getElem_toArray, List.getElem_cons_zero, List.getElem_cons_succ, Act.put, List.setIfInBounds_toArray, List.set_cons_zero, List.set_cons_succ])
              refine one_E (n := 7) (i := 5) (by kernel_rfl) rfl (fun K hK => ?_)
              go_simp
              go_at_call 51
              refine (HTm.out _).mono ?_
              rintro e w5 ⟨rfl, hb⟩
              have M_5 := Lib.hid (M_0.out.below hb)
              have BL5 := Lib.hid (bel0 BL0.out hb)
              clear hb
              refine hK.out _ _ (fun _ => And.intro (HRl.out BL5.out) M_5.out.f.cells) (fun hHeld5 => ?_)
              clear hK K
              (try simp only [List.getElem_toArray, List.getElem_cons_zero, List.getElem_cons_succ, Act.put, List.setIfInBounds_toArray, List.set_cons_zero, List.set_cons_succ])
              refine one_E (n := 7) (i := 7) (by kernel_rfl) rfl (fun K hK => ?_)
              go_simp
              go_at_call 47
              refine (HMm.out _).mono ?_
              rintro e w6 ⟨rfl, hb⟩
              have M_6 := Lib.hid (M_5.out.below hb)
              obtain ⟨⟨k1, k2, k3, k4⟩, fz⟩ := four_of_block M_6.out.f
              have f0 := fz 0
              have f1 := fz 1
              have f2 := fz 2
              have f3 := fz 3
              have hzb := lt_of_block M_6.out.f
              clear hb fz
              refine hK.out _ _ (fun h => absurd h (by decide)) (fun hHeld6 => ?_)
              clear hK K
              (try simp only [List.getElem_toArray, List.getElem_cons_zero, List.getElem_cons_succ, Act.put, List.setIfInBounds_toArray, List.set_cons_zero, List.set_cons_succ])
              refine one_E (n := 7) (i := 8) (by kernel_rfl) rfl (fun K hK => ?_)
              go_simp
              refine hK.out _ _ (fun h => absurd h (by decide)) (fun hHeld7 => ?_)
              clear hK K
              (try simp only [List.getElem_toArray, List.getElem_cons_zero, List.getElem_cons_succ, Act.put, List.setIfInBounds_toArray, List.set_cons_zero, List.set_cons_succ])
              refine done_E (by kernel_rfl) ?_ _
              go_wp2_with fail
              go_meet
              exact Lib.hid (M_6.out.set4 (t1, t2, t3, t4))
            case rest =>
              have HB4 : Hid (RB w wc ab tb k n M (.slice (some ⟨g1, 0, none⟩) M.length c') vS vT S0 T0 (t1, t2, t3, t4)) := hcut
              clear HB3 HRl HTm HMm hcut hg
              go_upto_block 4 with fail
              have ha0M : a0 ≤ M.length := by rw [HA0.out]; exact List.findIdx_le_length
              go_cut [13] (fun s13 wx => s13 = .int .i64 (a0 : Nat) ∧ Hid (RB w wx ab tb k n M (.slice (some ⟨g1, 0, none⟩) M.length c') vS vT S0 T0 (t1, t2, t3, t4)))
              case first =>
                go_wp2_with fail
                go_loopw [13] (fun P wi => ∃ p : Nat, P = .int .i64 (p : Nat) ∧ p ≤ M.length ∧ Hid (∀ q, q < p → hasM k n (mulM (t1, t2, t3, t4) (bckM (M.getD q (0, 0, 0, 0)))) = false) ∧ Hid (RB w wi ab tb k n M (.slice (some ⟨g1, 0, none⟩) M.length c') vS vT S0 T0 (t1, t2, t3, t4))) (fun P _ => M.length - (intOf P).toNat)
                case atStart => exact ⟨0, rfl, Nat.zero_le _, fun q hq => absurd hq (Nat.not_lt_zero q), HB4.out⟩
                case round =>
                  clear HB4
                  obtain ⟨p, rfl, hpM, HNo, HB5⟩ := hrel
                  by_cases hpl : p < M.length
                  · have hpi : (p : Int) < (M.length : Int) := by omega
                    have hpd : decide ((p : Int) < (M.length : Int)) = true := decide_eq_true hpi
                    obtain ⟨g2, cap, hv, hg, r1, r2, r3, r4⟩ := row_at HB5.out.r.l hpl
                    injection hv with hv1 hv2 hv3
                    injection hv1 with hv1
                    injection hv1 with hv1
                    rw [← hv1] at hg r1 r2 r3 r4
                    clear hv1 hv2 hv3
                    obtain ⟨⟨b1, b2, b3, b4⟩, hb⟩ : ∃ b, b = M[p] := ⟨_, rfl⟩
                    have hbb : (0 ≤ b1 ∧ b1 < n) ∧ (0 ≤ b2 ∧ b2 < n) ∧ (0 ≤ b3 ∧ b3 < n) ∧ (0 ≤ b4 ∧ b4 < n) := by have h := hrd0.out M[p] (List.getElem_mem hpl); rw [← hb] at h; exact h
                    rw [← hb] at r1 r2 r3 r4
                    have HGd : Hid (M.getD p (0, 0, 0, 0) = (b1, b2, b3, b4)) := by rw [hb]; exact getD_at hpl
                    obtain ⟨⟨z1', z2', z3', z4'⟩, hz⟩ : ∃ z, z = mulM (t1, t2, t3, t4) (b4, -b2, -b3, b1) := ⟨_, rfl⟩
                    obtain ⟨bb, hbbv⟩ : ∃ bb, bb = hasM k n (mulM (t1, t2, t3, t4) (bckM (M.getD p (0, 0, 0, 0)))) := ⟨_, rfl⟩
                    have hbz : bb = hasV k n z1' z2' z3' z4' := by
                      rw [hbbv, HGd.out]
                      show hasV k n (mulM (t1, t2, t3, t4) (b4, -b2, -b3, b1)).1 (mulM (t1, t2, t3, t4) (b4, -b2, -b3, b1)).2.1 (mulM (t1, t2, t3, t4) (b4, -b2, -b3, b1)).2.2.1 (mulM (t1, t2, t3, t4) (b4, -b2, -b3, b1)).2.2.2 = _
                      rw [← hz]
                    have HBk : Hid (∀ W, Calls Try.prog 52 #[.agg #[.int .i64 b1, .int .i64 b2, .int .i64 b3, .int .i64 b4]] W fun e w' => e = .returned (.agg #[.int .i64 b4, .int .i64 (-b2), .int .i64 (-b3), .int .i64 b1]) ∧ Below W.heap.size W w') := fun W => back_any b1 b2 b3 b4 W (fitB_iff.2 ⟨⟨by omega, by omega⟩, ⟨by omega, by omega⟩, ⟨by omega, by omega⟩, ⟨by omega, by omega⟩⟩)
                    have HT2 : Hid (∀ W, Calls Try.prog 51 #[.agg #[.int .i64 t1, .int .i64 t2, .int .i64 t3, .int .i64 t4], .agg #[.int .i64 b4, .int .i64 (-b2), .int .i64 (-b3), .int .i64 b1]] W fun e w' => e = .returned (.agg #[.int .i64 z1', .int .i64 z2', .int .i64 z3', .int .i64 z4']) ∧ Below W.heap.size W w') := fun W => by
                      have h := times_yes t1 t2 t3 t4 b4 (-b2) (-b3) b1 W (fitB_iff.2 ⟨⟨by omega, by omega⟩, ⟨by omega, by omega⟩, ⟨by omega, by omega⟩, ⟨by omega, by omega⟩⟩) (fitB_iff.2 ⟨⟨by omega, by omega⟩, ⟨by omega, by omega⟩, ⟨by omega, by omega⟩, ⟨by omega, by omega⟩⟩)
                      simp only [mulM, Prod.mk.injEq] at hz
                      obtain ⟨e1, e2, e3, e4⟩ := hz
                      rw [e1, e2, e3, e4]
                      exact h
                    have HHd : Hid (∀ W, Calls Try.prog 37 #[.agg #[.int .i64 k, .int .i64 n], .agg #[.int .i64 z1', .int .i64 z2', .int .i64 z3', .int .i64 z4']] W fun e w' => e = .returned (.bool bb) ∧ Below W.heap.size W w') := fun W => by
                      have bd : ∀ {a b c d : Int}, (0 ≤ a ∧ a < n) → (0 ≤ b ∧ b < n) → (0 ≤ c ∧ c < n) → (0 ≤ d ∧ d < n) → (-28800 ≤ a * b + c * d ∧ a * b + c * d ≤ 28800) ∧ (-28800 ≤ a * (-b) + c * d ∧ a * (-b) + c * d ≤ 28800) ∧ (-28800 ≤ a * b + c * (-d) ∧ a * b + c * (-d) ≤ 28800) := by
                        intro a b c d ha hb hc hd
                        have p1 : 0 ≤ a * b := Int.mul_nonneg ha.1 hb.1
                        have p2 : 0 ≤ c * d := Int.mul_nonneg hc.1 hd.1
                        have p3 : a * b ≤ 120 * 120 := Int.mul_le_mul (by omega) (by omega) hb.1 (by omega)
                        have p4 : c * d ≤ 120 * 120 := Int.mul_le_mul (by omega) (by omega) hd.1 (by omega)
                        rw [Int.mul_neg, Int.mul_neg]
                        omega
                      rw [hbz]
                      simp only [mulM, Prod.mk.injEq] at hz
                      obtain ⟨e1, e2, e3, e4⟩ := hz
                      have d1 := (bd htb.1 hbb.2.2.2 htb.2.1 hbb.2.2.1).2.2
                      have d2 := (bd htb.1 hbb.2.1 htb.2.1 hbb.1).2.1
                      have d3 := (bd htb.2.2.1 hbb.2.2.2 htb.2.2.2 hbb.2.2.1).2.2
                      have d4 := (bd htb.2.2.1 hbb.2.1 htb.2.2.2 hbb.1).2.1
                      rw [← e1] at d1
                      rw [← e2] at d2
                      rw [← e3] at d3
                      rw [← e4] at d4
                      exact rholds_any k n z1' z2' z3' z4' W hk n1 n2 (fitB_iff.2 ⟨⟨by omega, by omega⟩, ⟨by omega, by omega⟩, ⟨by omega, by omega⟩, ⟨by omega, by omega⟩⟩)
                    have HRl : Hid (∀ {W : World}, Below wr.heap.size wr W → W.cell? ⟨g1, p * 4, none⟩ = some (.int .i64 b1) ∧ W.cell? ⟨g1, p * 4 + 1, none⟩ = some (.int .i64 b2) ∧ W.cell? ⟨g1, p * 4 + 2, none⟩ = some (.int .i64 b3) ∧ W.cell? ⟨g1, p * 4 + 3, none⟩ = some (.int .i64 b4)) := fun {W} hb =>
                      ⟨(hb.cell (p := ⟨g1, p * 4, none⟩) hg).trans r1, (hb.cell (p := ⟨g1, p * 4 + 1, none⟩) hg).trans r2, (hb.cell (p := ⟨g1, p * 4 + 2, none⟩) hg).trans r3, (hb.cell (p := ⟨g1, p * 4 + 3, none⟩) hg).trans r4⟩
                    have HBv := Lib.hid hbbv
                    clear hb hz hbbv hbz hbb r1 r2 r3 r4 hg
                    go_upto_region 20 with fail
                    go_cut [73] (fun s73 wx => s73 = .bool (!bb) ∧ Hid (RB w wx ab tb k n M (.slice (some ⟨g1, 0, none⟩) M.length c') vS vT S0 T0 (t1, t2, t3, t4)))
                    case first =>
                      have M_0 := Lib.hid HB5.out.drew
                      have BL0 : Hid (Below wr.heap.size wr wr.drew) := (Below.refl _ wr).drew
                      refine region_E 13 (fun w' => (w'.cell? ⟨g1, p * 4, none⟩ = some (.int .i64 b1) ∧ w'.cell? ⟨g1, p * 4 + 1, none⟩ = some (.int .i64 b2) ∧ w'.cell? ⟨g1, p * 4 + 2, none⟩ = some (.int .i64 b3) ∧ w'.cell? ⟨g1, p * 4 + 3, none⟩ = some (.int .i64 b4)) ∧ (w'.cell? ⟨tb, 0, none⟩ = some (.int .i64 t1) ∧ w'.cell? ⟨tb, 1, none⟩ = some (.int .i64 t2) ∧ w'.cell? ⟨tb, 2, none⟩ = some (.int .i64 t3) ∧ w'.cell? ⟨tb, 3, none⟩ = some (.int .i64 t4)) ∧ (w'.cell? ⟨w.heap.size, 0, none⟩ = some (.int .i64 k) ∧ w'.cell? ⟨w.heap.size, 1, none⟩ = some (.int .i64 n))) (by kernel_rfl) ?_
                      have hHeld := And.intro (HRl.out BL0.out) (And.intro M_0.out.f.cells (two_of_block M_0.out.r.grp).1)
                      refine take_E (n := 13) (i := 0) (v := ?vf_0) rfl (by kernel_rfl) (fun _ _ _ h => h) ?hyf_0 (by rfl) hHeld ?restf_0
                      case hyf_0 => (intro w9 hSw; (try dsimp only at hSw); go_simp <;> with_reducible rfl)
                      (try simp only [List.getElem_toArray, List.getElem_cons_zero, List.getElem_cons_succ, Act.put, List.setIfInBounds_toArray, List.set_cons_zero, List.set_cons_succ])
                      refine take_E (n := 13) (i := 1) (v := ?vf_1) rfl (by kernel_rfl) (fun _ _ _ h => h) ?hyf_1 (by rfl) hHeld ?restf_1
                      case hyf_1 => (intro w9 hSw; (try dsimp only at hSw); go_simp <;> with_reducible rfl)
                      (try simp only [List.getElem_toArray, List.getElem_cons_zero, List.getElem_cons_succ, Act.put, List.setIfInBounds_toArray, List.set_cons_zero, List.set_cons_succ])
                      refine take_E (n := 13) (i := 2) (v := ?vf_2) rfl (by kernel_rfl) (fun _ _ _ h => h) ?hyf_2 (by rfl) hHeld ?restf_2
                      case hyf_2 => (intro w9 hSw; (try dsimp only at hSw); go_simp <;> with_reducible rfl)
                      (try simp only [List.getElem_toArray, List.getElem_cons_zero, List.getElem_cons_succ, Act.put, List.setIfInBounds_toArray, List.set_cons_zero, List.set_cons_succ])
                      refine take_E (n := 13) (i := 3) (v := ?vf_3) rfl (by kernel_rfl) (fun _ _ _ h => h) ?hyf_3 (by rfl) hHeld ?restf_3
                      case hyf_3 => (intro w9 hSw; (try dsimp only at hSw); go_simp <;> with_reducible rfl)
                      (try simp only [List.getElem_toArray, List.getElem_cons_zero, List.getElem_cons_succ, Act.put, List.setIfInBounds_toArray, List.set_cons_zero, List.set_cons_succ])
                      refine take_E (n := 13) (i := 4) (v := ?vf_4) rfl (by kernel_rfl) (fun _ _ _ h => h) ?hyf_4 (by rfl) hHeld ?restf_4
                      case hyf_4 => (intro w9 hSw; (try dsimp only at hSw); go_simp <;> with_reducible rfl)
                      (try simp only [List.getElem_toArray, List.getElem_cons_zero, List.getElem_cons_succ, Act.put, List.setIfInBounds_toArray, List.set_cons_zero, List.set_cons_succ])
                      refine take_E (n := 13) (i := 5) (v := ?vf_5) rfl (by kernel_rfl) (fun _ _ _ h => h) ?hyf_5 (by rfl) hHeld ?restf_5
                      case hyf_5 => (intro w9 hSw; (try dsimp only at hSw); go_simp <;> with_reducible rfl)
                      (try simp only [List.getElem_toArray, List.getElem_cons_zero, List.getElem_cons_succ, Act.put, List.setIfInBounds_toArray, List.set_cons_zero, List.set_cons_succ])
                      refine take_E (n := 13) (i := 6) (v := ?vf_6) rfl (by kernel_rfl) (fun _ _ _ h => h) ?hyf_6 (by rfl) hHeld ?restf_6
                      case hyf_6 => (intro w9 hSw; (try dsimp only at hSw); go_simp <;> with_reducible rfl)
                      (try simp only [List.getElem_toArray, List.getElem_cons_zero, List.getElem_cons_succ, Act.put, List.setIfInBounds_toArray, List.set_cons_zero, List.set_cons_succ])
                      refine take_E (n := 13) (i := 7) (v := ?vf_7) rfl (by kernel_rfl) (fun _ _ _ h => h) ?hyf_7 (by rfl) hHeld ?restf_7
                      case hyf_7 => (intro w9 hSw; (try dsimp only at hSw); go_simp <;> with_reducible rfl)
                      (try simp only [List.getElem_toArray, List.getElem_cons_zero, List.getElem_cons_succ, Act.put, List.setIfInBounds_toArray, List.set_cons_zero, List.set_cons_succ])
                      refine take_E (n := 13) (i := 8) (v := ?vf_8) rfl (by kernel_rfl) (fun _ _ _ h => h) ?hyf_8 (by rfl) hHeld ?restf_8
                      case hyf_8 => (intro w9 hSw; (try dsimp only at hSw); go_simp <;> with_reducible rfl)
                      (try simp only [List.getElem_toArray, List.getElem_cons_zero, List.getElem_cons_succ, Act.put, List.setIfInBounds_toArray, List.set_cons_zero, List.set_cons_succ])
                      refine take_E (n := 13) (i := 9) (v := ?vf_9) rfl (by kernel_rfl) (fun _ _ _ h => h) ?hyf_9 (by rfl) hHeld ?restf_9
                      case hyf_9 => (intro w9 hSw; (try dsimp only at hSw); go_simp <;> with_reducible rfl)
                      (try simp only [List.getElem_toArray, List.getElem_cons_zero, List.getElem_cons_succ, Act.put, List.setIfInBounds_toArray, List.set_cons_zero, List.set_cons_succ])
                      refine take_E (n := 13) (i := 10) (v := ?vf_10) rfl (by kernel_rfl) (fun _ _ _ h => h) ?hyf_10 (by rfl) hHeld ?restf_10
                      case hyf_10 => (intro w9 hSw; (try dsimp only at hSw); go_simp <;> with_reducible rfl)
                      (try simp only [List.getElem_toArray, List.getElem_cons_zero, List.getElem_cons_succ, Act.put, List.setIfInBounds_toArray, List.set_cons_zero, List.set_cons_succ])
                      refine one_E (n := 13) (i := 11) (by kernel_rfl) rfl (fun K hK => ?_)
                      go_simp
                      go_at_call 52
                      refine (HBk.out _).mono ?_
                      rintro e w5 ⟨rfl, hb⟩
                      have M_5 := Lib.hid (M_0.out.below hb)
                      have BL5 := Lib.hid (bel0 BL0.out hb)
                      clear hb
                      refine hK.out _ _ (fun _ => And.intro (HRl.out BL5.out) (And.intro M_5.out.f.cells (two_of_block M_5.out.r.grp).1)) (fun hHeld5 => ?_)
                      clear hK K
                      (try simp only [List.getElem_toArray, List.getElem_cons_zero, List.getElem_cons_succ, Act.put, List.setIfInBounds_toArray, List.set_cons_zero, List.set_cons_succ])
                      refine one_E (n := 13) (i := 12) (by kernel_rfl) rfl (fun K hK => ?_)
                      go_simp
                      go_at_call 51
                      refine (HT2.out _).mono ?_
                      rintro e w6 ⟨rfl, hb⟩
                      have M_6 := Lib.hid (M_5.out.below hb)
                      have BL6 := Lib.hid (bel0 BL5.out hb)
                      clear hb
                      refine hK.out _ _ (fun _ => And.intro (HRl.out BL6.out) (And.intro M_6.out.f.cells (two_of_block M_6.out.r.grp).1)) (fun hHeld6 => ?_)
                      clear hK K
                      (try simp only [List.getElem_toArray, List.getElem_cons_zero, List.getElem_cons_succ, Act.put, List.setIfInBounds_toArray, List.set_cons_zero, List.set_cons_succ])
                      refine one_E (n := 13) (i := 13) (by kernel_rfl) rfl (fun K hK => ?_)
                      go_simp
                      go_at_call 37
                      refine (HHd.out _).mono ?_
                      rintro e w7 ⟨rfl, hb⟩
                      have M_7 := Lib.hid (M_6.out.below hb)
                      clear hb
                      refine hK.out _ _ (fun h => absurd h (by decide)) (fun hHeld7 => ?_)
                      clear hK K
                      (try simp only [List.getElem_toArray, List.getElem_cons_zero, List.getElem_cons_succ, Act.put, List.setIfInBounds_toArray, List.set_cons_zero, List.set_cons_succ])
                      refine one_E (n := 13) (i := 14) (by kernel_rfl) rfl (fun K hK => ?_)
                      go_simp
                      refine hK.out _ _ (fun h => absurd h (by decide)) (fun hHeld8 => ?_)
                      clear hK K
                      (try simp only [List.getElem_toArray, List.getElem_cons_zero, List.getElem_cons_succ, Act.put, List.setIfInBounds_toArray, List.set_cons_zero, List.set_cons_succ])
                      refine one_E (n := 13) (i := 15) (by kernel_rfl) rfl (fun K hK => ?_)
                      go_simp
                      refine hK.out _ _ (fun h => absurd h (by decide)) (fun hHeld9 => ?_)
                      clear hK K
                      (try simp only [List.getElem_toArray, List.getElem_cons_zero, List.getElem_cons_succ, Act.put, List.setIfInBounds_toArray, List.set_cons_zero, List.set_cons_succ])
                      refine done_E (by kernel_rfl) ?_ _
                      go_wp2_with fail
                      go_meet
                      exact ⟨rfl, M_7⟩
                    case rest =>
                      obtain ⟨rfl, HB6⟩ := hcut
                      cases bb
                      · go_wp2_with fail
                        go_roundw
                        case rel =>
                          refine ⟨p + 1, by go_num, by omega, fun q hq => ?_, HB6.out⟩
                          by_cases e : q = p
                          · rw [e]; exact HBv.out.symm
                          · exact HNo.out q (by omega)
                        case measure => simp [intOf]; omega
                      · have ep : a0 = p := by
                          rw [HA0.out]
                          exact at_is hpM HNo.out (.inr ⟨hpl, HBv.out.symm⟩)
                        go_wp2_with fail
                        go_meet
                        exact ⟨by rw [ep], HB6⟩
                  · have ep : p = M.length := by omega
                    have ep2 : a0 = p := by
                      rw [HA0.out]
                      exact at_is hpM HNo.out (.inl ep)
                    have hpd : decide ((p : Int) < (M.length : Int)) = false := by simp; omega
                    have HB6 := Lib.hid HB5.out.drew
                    clear ep
                    go_upto_region 20 with fail
                    go_region
                    go_wp2_with fail
                    go_meet
                    exact ⟨by rw [ep2], HB6⟩
              case rest =>
                obtain ⟨rfl, HB5⟩ := hcut
                clear HB4
                obtain ⟨nb, hnb⟩ : ∃ nb : Bool, nb = decide ((a0 : Int) = (M.length : Int)) := ⟨_, rfl⟩
                have q5 : decide ((a0 : Int) = (M.length : Int)) = nb := hnb.symm
                have q6 : ((a0 : Int) == (M.length : Int)) = nb := by rw [hnb]; rfl
                obtain ⟨M2, hM2⟩ : ∃ M2, M2 = nxR k n M (t1, t2, t3, t4) := ⟨_, rfl⟩
                have HM2 : Hid (M2 = bif nb then M ++ [(t1, t2, t3, t4)] else M) := by
                  show _ = _
                  rw [hM2, hnb]
                  have h := HA0.out
                  unfold nxR
                  rw [← h]
                  by_cases e : a0 = M.length
                  · rw [if_pos e, decide_eq_true (by omega)]; rfl
                  · rw [if_neg e, decide_eq_false (by omega)]; rfl
                rw [← hM2] at HLn
                have hml3 : M2.length ≤ 2308 := by
                  have h := nx_len k n M (t1, t2, t3, t4)
                  rw [← hM2] at h
                  omega
                clear hM2 hnb
                go_upto_if 79 with fail
                go_cut [8] (fun s8 wx => ∃ (g c : Nat), s8 = .slice (some ⟨g, 0, none⟩) M2.length c ∧ Hid (RB w wx ab tb k n M2 (.slice (some ⟨g, 0, none⟩) M2.length c) vS vT S0 T0 (t1, t2, t3, t4)))
                case first =>
                  cases nb
                  · have e : M2 = M := HM2.out
                    go_wp2_with fail
                    go_meet
                    rw [e]
                    exact ⟨g1, c', rfl, HB5⟩
                  · have e : M2 = M ++ [(t1, t2, t3, t4)] := HM2.out
                    obtain ⟨⟨k1, k2, k3, k4⟩, fz⟩ := four_of_block HB5.out.f
                    have hzb := lt_of_block HB5.out.f
                    have hbs := HB5.out.r.bs
                    clear q5 q6
                    have He := Lib.hid e
                    clear e
                    go_wp2_with (first
                      | (at_builtin; (refine wpList_append_own_at _ rfl _ _ 52 rfl w.heap.size 26 iM (.agg #[.int .i64 0, .int .i64 0, .int .i64 0, .int .i64 0]) 4 32 Try.underlying52 hiM y0 y1 y2 rfl (by decide) _ _ _ rfl (row_below HB5.out.r.l (below1 _ _)) ⟨wc.heap.size, 0, none⟩ 1 1 [.int .i64 t1, .int .i64 t2, .int .i64 t3, .int .i64 t4] rfl rfl (cell_four_new _ _ _ _ _ _) (fun x hx => by simp at hx; rcases hx with rfl | rfl | rfl | rfl <;> rfl) (by unfold maxLen; omega) (by omega) (by simp; omega) ?_); intro v' w4 hown4 hg4 hnil4 hat4; have HP4 := Lib.hid (HB5.out.push hown4 hg4 hat4); obtain ⟨A2, c2, rfl⟩ := own_len hown4; clear hown4 hg4 hnil4 hat4)
                      | fail)
                    go_meet
                    obtain ⟨g3, c3, hv3, _⟩ := row_at HP4.out.r.l (i := i) (by simp; omega)
                    have hv4 : Value.slice A2 (M.length + 1) c2 = .slice (some ⟨g3, 0, none⟩) M2.length c2 := by
                      injection hv3 with h1 h2 h3
                      rw [h1, He.out]; simp
                    have HP5 := HP4.out
                    rw [hv4, ← He.out] at HP5
                    exact ⟨g3, c2, hv4, HP5⟩
                case rest =>
                  obtain ⟨g3, c3, rfl, HB6⟩ := hcut
                  clear HB5 q5 q6 HM2
                  have hbs := HB6.out.r.bs
                  obtain ⟨⟨l1, l2⟩, _⟩ := two_of_block HB6.out.r.a.a
                  go_upto_if 85 with fail
                  cases jz
                  · have hj1 : j = 1 := HJz.out
                    have HS9 : Hid (oS S x (j + 1) = S0) := by show _ = _; rw [HSe.out, hj1]; rfl
                    have HT9 : Hid (oT T y (j + 1) = T0 ++ [a0]) := by show _ = _; rw [HTe.out, hj1, HAx.out.2 hj1]; rfl
                    clear hj1
                    go_wp2_with (first
                      | (at_builtin; (refine wpList_append_own_at _ rfl _ _ 45 rfl w.heap.size 3 i0 (.int .i64 0) 1 8 Try.underlying45 hi z0 z1 z2 rfl (by decide) _ _ _ rfl (row_below HB6.out.r.a.rT (below1 _ _)) ⟨wc.heap.size, 0, none⟩ 1 1 [.int .i64 (a0 : Nat)] rfl rfl (cell_one_new' _ _ _) (fun x hx => by simp at hx; rw [hx]; rfl) (by unfold maxLen; omega) (by omega) (by simp; omega) ?_); intro v' w4 hown4 hg4 hnil4 hat4; have HA4 := Lib.hid (HB6.out.app (.inr rfl) hg4); have HP4 := Lib.hid (HB6.out.pushT hown4 hg4 hat4); obtain ⟨A2, c2, rfl⟩ := own_len hown4; have q0 := (two_of_block HA4.out).1; have fz := (two_of_block HA4.out).2; have fz0 := fz 0; have fz1 := fz 1; have hzl := lt_of_block HA4.out; clear hown4 hg4 hnil4 hat4 fz)
                      | fail)
                    have HE : Hid (RW w (w4.setCell ⟨ab, 1, none⟩ (.slice A2 (T0.length + 1) c2)) ab k n (oL k n R (m1, m2, m3, m4) (j + 1)) (.slice (some ⟨g3, 0, none⟩) (oL k n R (m1, m2, m3, m4) (j + 1)).length c3) vS (.slice A2 (T0.length + 1) c2) (oS S x (j + 1)) (oT T y (j + 1))) := by
                      rw [HLn.out, HS9.out, HT9.out]
                      exact HP4
                    go_roundw
                    case rel => exact ⟨j + 1, c3, g3, _, _, by rw [HLn.out], by go_num, by omega, HE⟩
                    case measure => simp [intOf]; omega
                  · have hj0 : j = 0 := HJz.out
                    have HS9 : Hid (oS S x (j + 1) = S0 ++ [a0]) := by show _ = _; rw [HSe.out, hj0, HAx.out.1 hj0]; rfl
                    have HT9 : Hid (oT T y (j + 1) = T0) := by show _ = _; rw [HTe.out, hj0]; rfl
                    clear hj0
                    go_wp2_with (first
                      | (at_builtin; (refine wpList_append_own_at _ rfl _ _ 45 rfl w.heap.size 3 i0 (.int .i64 0) 1 8 Try.underlying45 hi z0 z1 z2 rfl (by decide) _ _ _ rfl (row_below HB6.out.r.a.rS (below1 _ _)) ⟨wc.heap.size, 0, none⟩ 1 1 [.int .i64 (a0 : Nat)] rfl rfl (cell_one_new' _ _ _) (fun x hx => by simp at hx; rw [hx]; rfl) (by unfold maxLen; omega) (by omega) (by simp; omega) ?_); intro v' w4 hown4 hg4 hnil4 hat4; have HA4 := Lib.hid (HB6.out.app (.inl rfl) hg4); have HP4 := Lib.hid (HB6.out.pushS hown4 hg4 hat4); obtain ⟨A2, c2, rfl⟩ := own_len hown4; have q0 := (two_of_block HA4.out).1; have fz := (two_of_block HA4.out).2; have fz0 := fz 0; have fz1 := fz 1; have hzl := lt_of_block HA4.out; clear hown4 hg4 hnil4 hat4 fz)
                      | fail)
                    have HE : Hid (RW w (w4.setCell ⟨ab, 0, none⟩ (.slice A2 (S0.length + 1) c2)) ab k n (oL k n R (m1, m2, m3, m4) (j + 1)) (.slice (some ⟨g3, 0, none⟩) (oL k n R (m1, m2, m3, m4) (j + 1)).length c3) (.slice A2 (S0.length + 1) c2) vT (oS S x (j + 1)) (oT T y (j + 1))) := by
                      rw [HLn.out, HS9.out, HT9.out]
                      exact HP4
                    go_roundw
                    case rel => exact ⟨j + 1, c3, g3, _, _, by rw [HLn.out], by go_num, by omega, HE⟩
                    case measure => simp [intOf]; omega
        · have hj3 : j = 2 := by omega
          subst hj3
          have hji : ¬ ((2 : Nat) : Int) < 2 := by omega
          go_wp2_with fail
          go_roundw
          case rel => exact ⟨i + 1, c', g1, vS, vT, oL k n R (m1, m2, m3, m4) 2, oS S x 2, oT T y 2, rfl, by go_num, by omega, HNx, HS⟩
          case measure => simp [intOf]; omega
    · have hiE : i = N := by
        refine Nat.le_antisymm hiN (Nat.le_of_not_lt fun e => ?_)
        exact hlt (RfI.step hk n1 HC.out HFi.out e HR.out).1
      subst hiE
      obtain ⟨AS, cS, rfl⟩ := own_len HS.out.a.rS
      obtain ⟨AT, cT, rfl⟩ := own_len HS.out.a.rT
      have hll : ¬ (i : Int) < (R.length : Int) := by omega
      obtain ⟨⟨r1, r2⟩, rz⟩ := two_of_block HS.out.res
      obtain ⟨⟨a1, a2⟩, az⟩ := two_of_block HS.out.a.a
      have hzl := lt_of_block HS.out.res
      have rz0 := rz 0
      have rz1 := rz 1
      go_wp2_with fail
      have HW := HS.out
      have kp : ∀ {v : Value} {e : TypeId} {sz m : Nat} {xs : List Value}, e ≠ 47 → wr.ownsRow w.heap.size e sz v m xs → ((wr.setCell ⟨w.heap.size + 1, 0, none⟩ (.slice AS S.length cS)).setCell ⟨w.heap.size + 1, 1, none⟩ (.slice AT T.length cT)).ownsRow w.heap.size e sz v m xs := fun he h => row_keep h fun g' hg' => by
        obtain ⟨_, cur, hc⟩ := row_lt h hg'
        have hne : g' ≠ w.heap.size + 1 := ty_ne hc HW.res he
        exact (set_ne (set_ne rfl hne _) hne _)
      obtain ⟨⟨x1, x2⟩, _⟩ := two_of_block (two_set1 (two_set0 HW.res (.slice AS S.length cS)) (.slice AT T.length cT))
      have hs := HR.out.s
      have ht := HR.out.t
      obtain ⟨_, l2, l3⟩ := rf_len HR.out
      refine bodyPost_ret (v := .tuple #[.agg #[(.slice AS S.length cS), (.slice AT T.length cT)], .slice (some ⟨g, 0, none⟩) R.length c, .int .i64 0]) ?_ rfl ⟨(.slice AS S.length cS), (.slice AT T.length cT), ⟨_, rfl⟩, ?_, ?_, below_set2 HW.bel (Nat.le_succ _) _ _⟩
      · simp [results, Try.results24, go_sem, x1, x2]
      · exact row_eq l2 hs (kp (by decide) HW.a.rS)
      · exact row_eq l3 ht (kp (by decide) HW.a.rT)
end Go.Proofs.Ytilfkppapimocaa
namespace Go.Proofs.Ytilfkppapimocaa
open Go.RowKit
set_option linter.unusedVariables false
set_option linter.unusedSimpArgs false

/-- The reference's Of, for every group whose index is not too large. -/
theorem rof_ok {k n : Int} (h : ckxI k n = 0) (w : World) : Calls Try.prog 24 #[.agg #[.int .i64 k, .int .i64 n]] w fun e w' => ∃ AS cS AT cT vl, e = .returned (.tuple #[.agg #[.slice AS (olS k n).length cS, .slice AT (olT k n).length cT], vl, .int .i64 0]) ∧ RdZ w' w'.heap.size AS cS (olS k n) ∧ RdZ w' w'.heap.size AT cT (olT k n) ∧ Below w.heap.size w w' := by
  obtain ⟨hF, hN, hg⟩ := ckx_kf h
  rcases gck_cases k n with ⟨_, h2⟩ | ⟨_, _, h2⟩ | ⟨h1, h2, _⟩
  · rw [h2] at hg; exact absurd hg (by decide)
  · rw [h2] at hg; exact absurd hg (by decide)
  have hi : idxI k n = (idxN k n.toNat : Nat) := if_pos hg
  refine (rof_any (N := idxN k n.toNat) w h1 h2.1 h2.2 hF.cos hF.fin hN fun W => by have := rindex_any k n W; rw [hi, hg] at this; exact this).mono ?_
  rintro e w' ⟨vS, vT, vl, rfl, rS, rT, hb⟩
  have l1 : (olS k n).length = idxN k n.toNat := ol_len.1
  have l2 : (olT k n).length = idxN k n.toNat := ol_len.2
  obtain ⟨AS, cS, rfl⟩ := own_len rS
  obtain ⟨AT, cT, rfl⟩ := own_len rT
  rw [kis_zs] at rS rT
  change w'.ownsRow w.heap.size 3 1 _ _ (zs (olS k n)) at rS
  change w'.ownsRow w.heap.size 3 1 _ _ (zs (olT k n)) at rT
  rw [← l1] at rS
  rw [← l2] at rT
  obtain ⟨A1, c1, e1, r1⟩ := own_rdz rS
  obtain ⟨A2, c2, e2, r2⟩ := own_rdz rT
  rw [l1] at e1
  rw [l2] at e2
  cases e1
  cases e2
  refine ⟨AS, cS, AT, cT, vl, ?_, r1, r2, hb⟩
  rw [l1, l2]
set_option maxHeartbeats 6400000 in
set_option maxRecDepth 1000000 in
theorem rof_bad {k n x z : Int} (w : World) (hz : z ≠ 0) (HI0 : ∀ W, Calls Try.prog 20 #[.agg #[.int .i64 k, .int .i64 n]] W fun e w' => e = .returned (.tuple #[.int .i64 x, .int .i64 z]) ∧ Below W.heap.size W w') :
    Calls Try.prog 24 #[.agg #[.int .i64 k, .int .i64 n]] w fun e w' => e = .returned (.tuple #[.agg #[.slice none 0 0, .slice none 0 0], .slice none 0 0, .int .i64 z]) ∧ Below w.heap.size w w' := by
  have HI := Lib.hid HI0
  have hzb : (z == 0) = false := by simpa using hz
  clear HI0
  go_enter Try.func24, Try.ntmps24
  go_wp2_with (first
    | (go_at_call 20; ((with_reducible refine (HI.out _).mono ?_); rintro e w1 ⟨rfl, hb⟩; have R1 : Hid (w1.heap[w.heap.size + 1]? = some (.cells #[.slice none 0 0, .slice none 0 0] 47 (0, 0))) := block_below (by have := heap_alloc_new (w.alloc (.cells #[.int .i64 k, .int .i64 n] 24)) (.cells #[.slice none 0 0, .slice none 0 0] 47); simpa using this) hb; have HB1 : Hid (Below w.heap.size w w1) := bel2 (Below.refl _ _) hb; obtain ⟨⟨k1, k2⟩, fz⟩ := two_of_block R1.out; have f1 := fz 0; have f2 := fz 1; have hz1 := lt_of_block R1.out; clear hb fz))
    | fail)
  obtain ⟨⟨r1, r2⟩, _⟩ := two_of_block (two_set1 (two_set0 R1.out (.slice none 0 0)) (.slice none 0 0))
  refine bodyPost_ret (v := .tuple #[.agg #[.slice none 0 0, .slice none 0 0], .slice none 0 0, .int .i64 z]) ?_ rfl ⟨rfl, below_set2 HB1.out (Nat.le_succ _) _ _⟩
  simp [results, Try.results24, go_sem, r1, r2]
set_option maxHeartbeats 6400000 in
set_option maxRecDepth 1000000 in
theorem rof_big {k n x : Int} (w : World) (hx : 1152 < x) (HI0 : ∀ W, Calls Try.prog 20 #[.agg #[.int .i64 k, .int .i64 n]] W fun e w' => e = .returned (.tuple #[.int .i64 x, .int .i64 0]) ∧ Below W.heap.size W w') :
    Calls Try.prog 24 #[.agg #[.int .i64 k, .int .i64 n]] w fun e w' => e = .returned (.tuple #[.agg #[.slice none 0 0, .slice none 0 0], .slice none 0 0, .int .i64 7]) ∧ Below w.heap.size w w' := by
  have HI := Lib.hid HI0
  clear HI0
  go_enter Try.func24, Try.ntmps24
  go_wp2_with (first
    | (go_at_call 20; ((with_reducible refine (HI.out _).mono ?_); rintro e w1 ⟨rfl, hb⟩; have R1 : Hid (w1.heap[w.heap.size + 1]? = some (.cells #[.slice none 0 0, .slice none 0 0] 47 (0, 0))) := block_below (by have := heap_alloc_new (w.alloc (.cells #[.int .i64 k, .int .i64 n] 24)) (.cells #[.slice none 0 0, .slice none 0 0] 47); simpa using this) hb; have HB1 : Hid (Below w.heap.size w w1) := bel2 (Below.refl _ _) hb; obtain ⟨⟨k1, k2⟩, fz⟩ := two_of_block R1.out; have f1 := fz 0; have f2 := fz 1; have hz1 := lt_of_block R1.out; clear hb fz))
    | fail)
  obtain ⟨⟨r1, r2⟩, _⟩ := two_of_block (two_set1 (two_set0 R1.out (.slice none 0 0)) (.slice none 0 0))
  refine bodyPost_ret (v := .tuple #[.agg #[.slice none 0 0, .slice none 0 0], .slice none 0 0, .int .i64 7]) ?_ rfl ⟨rfl, below_set2 HB1.out (Nat.le_succ _) _ _⟩
  simp [results, Try.results24, go_sem, r1, r2]
theorem rof_err {k n : Int} (h : ckxI k n ≠ 0) (w : World) : Calls Try.prog 24 #[.agg #[.int .i64 k, .int .i64 n]] w fun e w' => e = .returned (.tuple #[.agg #[.slice none 0 0, .slice none 0 0], .slice none 0 0, .int .i64 (ckxI k n)]) ∧ Below w.heap.size w w' := by
  by_cases hg : gckI k n = 0
  · have hc : ckxI k n = if 1152 < idxI k n then 7 else 0 := if_pos hg
    by_cases hx : 1152 < idxI k n
    · rw [if_pos hx] at hc
      rw [hc]
      exact rof_big w hx fun W => by rw [← hg]; exact rindex_any k n W
    · rw [if_neg hx] at hc; exact absurd hc h
  · have hc : ckxI k n = gckI k n := if_neg hg
    rw [hc]
    exact rof_bad w hg fun W => rindex_any k n W
/-- A row of matrices of fixed length, some of them written. -/
def cM (m : M4) (r : Nat) : Int := if r = 0 then m.1 else if r = 1 then m.2.1 else if r = 2 then m.2.2.1 else m.2.2.2
def rowF (L : List M4) (j : Nat) : Value := .int .i64 (cM (L.getD (j / 4) (0, 0, 0, 0)) (j % 4))
theorem rowF_at (L : List M4) (i r : Nat) (hr : r < 4) : rowF L (i * 4 + r) = .int .i64 (cM (L.getD i (0, 0, 0, 0)) r) := by
  unfold rowF
  rw [show (i * 4 + r) / 4 = i by omega, show (i * 4 + r) % 4 = r by omega]
theorem rowF_nil (j : Nat) : rowF [] j = .int .i64 0 := by
  unfold rowF cM
  simp
theorem rowF_push (L : List M4) (m : M4) (j : Nat) : rowF (L ++ [m]) j = if j / 4 = L.length then .int .i64 (cM m (j % 4)) else rowF L j := by
  unfold rowF
  by_cases h : j / 4 = L.length
  · rw [if_pos h, h]; simp [List.getD_eq_getElem?_getD]
  · rw [if_neg h]
    rcases Nat.lt_or_ge (j / 4) L.length with h1 | h1
    · simp [List.getD_eq_getElem?_getD, List.getElem?_append_left h1]
    · rw [List.getD_eq_getElem?_getD, List.getD_eq_getElem?_getD, List.getElem?_eq_none (by simp; omega), List.getElem?_eq_none (by omega)]
structure RP (w wr : World) (AS AT : Option Addr) (cS cT : Nat) (N : Nat) (L : List M4) : Prop where
  row : wr.rowIs (w.heap.size + 1) 26 (N * 4) (rowF L)
  a : wr.heap[w.heap.size]? = some (.cells #[.slice AS N cS, .slice AT N cT] 47 (0, 0))
  bel : Below w.heap.size w wr
section
variable {w wr w' : World} {AS AT : Option Addr} {cS cT : Nat} {N : Nat} {L : List M4}
theorem RP.below (h : RP w wr AS AT cS cT N L) (hb : Below wr.heap.size wr w') : RP w w' AS AT cS cT N L :=
  ⟨h.row.of_block (hb.block _ h.row.lt), block_below h.a hb, h.bel.trans (hb.mono h.bel.size)⟩
theorem RP.drew (h : RP w wr AS AT cS cT N L) : RP w wr.drew AS AT cS cT N L := h.below ((Below.refl _ wr).drew)
theorem RP.at_ (h : RP w wr AS AT cS cT N L) {i : Nat} (hi : i < N) : wr.cell? ⟨w.heap.size + 1, i * 4, none⟩ = some (.int .i64 (L.getD i (0, 0, 0, 0)).1) ∧ wr.cell? ⟨w.heap.size + 1, i * 4 + 1, none⟩ = some (.int .i64 (L.getD i (0, 0, 0, 0)).2.1) ∧ wr.cell? ⟨w.heap.size + 1, i * 4 + 2, none⟩ = some (.int .i64 (L.getD i (0, 0, 0, 0)).2.2.1) ∧ wr.cell? ⟨w.heap.size + 1, i * 4 + 3, none⟩ = some (.int .i64 (L.getD i (0, 0, 0, 0)).2.2.2) := by
  have h0 := h.row.cell (i := i * 4) (by omega)
  have h1 := h.row.cell (i := i * 4 + 1) (by omega)
  have h2 := h.row.cell (i := i * 4 + 2) (by omega)
  have h3 := h.row.cell (i := i * 4 + 3) (by omega)
  rw [show i * 4 = i * 4 + 0 from rfl, rowF_at _ _ _ (by decide)] at h0
  rw [rowF_at _ _ _ (by decide)] at h1 h2 h3
  exact ⟨h0, h1, h2, h3⟩
theorem RP.free (h : RP w wr AS AT cS cT N L) (j : Nat) : wr.frozen? ⟨w.heap.size + 1, j, none⟩ = false := h.row.frozen j
theorem RP.push (h : RP w wr AS AT cS cT N L) (m : M4) : RP w ((((wr.setCell ⟨w.heap.size + 1, L.length * 4, none⟩ (.int .i64 m.1)).setCell ⟨w.heap.size + 1, L.length * 4 + 1, none⟩ (.int .i64 m.2.1)).setCell ⟨w.heap.size + 1, L.length * 4 + 2, none⟩ (.int .i64 m.2.2.1)).setCell ⟨w.heap.size + 1, L.length * 4 + 3, none⟩ (.int .i64 m.2.2.2)) AS AT cS cT N (L ++ [m]) := by
  obtain ⟨ck, hck, _⟩ := h.row
  have hne : w.heap.size ≠ w.heap.size + 1 := by omega
  refine ⟨World.rowIs.congr ((((h.row.set (L.length * 4) _).set (L.length * 4 + 1) _).set (L.length * 4 + 2) _).set (L.length * 4 + 3) _) fun j _ => ?_, set_ne (set_ne (set_ne (set_ne h.a hne _) hne _) hne _) hne _, ?_⟩
  · rw [rowF_push]
    unfold cM
    by_cases e0 : j = L.length * 4
    · subst e0; simp
    · by_cases e1 : j = L.length * 4 + 1
      · subst e1
        have q1 : (L.length * 4 + 1) / 4 = L.length := by omega
        have q2 : (L.length * 4 + 1) % 4 = 1 := by omega
        simp [q1, q2]
      · by_cases e2 : j = L.length * 4 + 2
        · subst e2
          have q1 : (L.length * 4 + 2) / 4 = L.length := by omega
          have q2 : (L.length * 4 + 2) % 4 = 2 := by omega
          simp [q1, q2]
        · by_cases e3 : j = L.length * 4 + 3
          · subst e3
            have q1 : (L.length * 4 + 3) / 4 = L.length := by omega
            have q2 : (L.length * 4 + 3) % 4 = 3 := by omega
            simp [q1, q2]
          · simp [e0, e1, e2, e3]
            intro h9
            omega
  · have hC : CH wr ((((wr.setCell ⟨w.heap.size + 1, L.length * 4, none⟩ (.int .i64 m.1)).setCell ⟨w.heap.size + 1, L.length * 4 + 1, none⟩ (.int .i64 m.2.1)).setCell ⟨w.heap.size + 1, L.length * 4 + 2, none⟩ (.int .i64 m.2.2.1)).setCell ⟨w.heap.size + 1, L.length * 4 + 3, none⟩ (.int .i64 m.2.2.2)) (fun i => i = w.heap.size + 1) :=
      ⟨by simp, rfl, rfl, rfl, fun i hi he => set_ne (set_ne (set_ne (set_ne rfl he _) he _) he _) he _⟩
    exact h.bel.trans (hC.below (fun i e => by omega) h.bel.size)
end

theorem mk_mats (n : Nat) (W : World) (hn : n ≤ 1152) : (Instr.makeSlice 52 (.int .i64 (n : Int)) (.int .i64 (n : Int))).run Try.prog W = .ok (.slice (some ⟨W.heap.size, 0, none⟩) n n) (W.alloc (.cells (madeCells #[.int .i64 0, .int .i64 0, .int .i64 0, .int .i64 0] (n * 4)) 26)) := by
  obtain ⟨i1, hj, y0, y1, y2⟩ := info_parts infoMt
  have h := run_make (P := Try.prog) W 52 26 i1 (.agg #[.int .i64 0, .int .i64 0, .int .i64 0, .int .i64 0]) Try.underlying52 hj y0 .i64 .i64 (n : Int) (n : Int) (by omega) (by omega) (by rw [y2]; omega) (by omega)
  rw [show ((n : Int)).toNat = n by omega, y1] at h
  exact h
theorem row_made (W : World) (n : Nat) : (W.alloc (.cells (madeCells #[.int .i64 0, .int .i64 0, .int .i64 0, .int .i64 0] (n * 4)) 26)).rowIs W.heap.size 26 (n * 4) (rowF []) := by
  have h := World.rowIs_alloc W (madeCells #[.int .i64 0, .int .i64 0, .int .i64 0, .int .i64 0] (n * 4)) 26 (rowF []) (fun i hi => by
    rw [size_madeCells] at hi
    rw [rowF_nil]
    unfold madeCells
    rw [Array.getElem?_map, Array.getElem?_range, if_pos hi]
    have h4 : i % 4 < 4 := Nat.mod_lt _ (by decide)
    show some (#[Value.int .i64 0, .int .i64 0, .int .i64 0, .int .i64 0][i % 4]!) = _
    match i % 4, h4 with
    | 0, _ => rfl
    | 1, _ => rfl
    | 2, _ => rfl
    | 3, _ => rfl)
  rw [size_madeCells] at h
  exact h
theorem RP.start {w3 : World} {AS AT : Option Addr} {cS cT : Nat} (N : Nat) : RP w3 ((w3.alloc (.cells #[.slice AS N cS, .slice AT N cT] 47)).alloc (.cells (madeCells #[.int .i64 0, .int .i64 0, .int .i64 0, .int .i64 0] (N * 4)) 26)) AS AT cS cT N [] := by
  have h := row_made (w3.alloc (.cells #[.slice AS N cS, .slice AT N cT] 47)) N
  refine ⟨?_, block_alloc (heap_alloc_new w3 _) _, below2 _ _ _⟩
  simpa using h
/-- What the reference's round does to the list. -/
structure RpR (S T : List Int) (N i : Nat) (L L1 L2 : List M4) (a b c d : Int) (sb tb : Bool) : Prop where
  lt : i < L.length
  len : L.length ≤ N
  len1 : L1.length ≤ N
  get : L.getD i (0, 0, 0, 0) = (a, b, c, d)
  bd : bd4 (a, b, c, d)
  get1 : i < L1.length ∧ L1.getD i (0, 0, 0, 0) = (a, b, c, d)
  sb_ : decide (S.getD i 0 = (L.length : Int)) = sb
  tb_ : decide (T.getD i 0 = (L1.length : Int)) = tb
  l1 : L1 = bif sb then L ++ [(b, -a, d, -c)] else L
  l2 : L2 = bif tb then L1 ++ [(a, a + b, c, c + d)] else L1
  s : sb = true → L.length < N
  t : tb = true → L1.length < N
set_option maxHeartbeats 6400000 in
set_option maxRecDepth 1000000 in
theorem rreps_gen {k n : Int} {S T : List Int} {N : Nat} {LL : Nat → List M4} (w : World) (hS : S.length = N) (hT : T.length = N) (hN1 : 0 < N) (hN : N ≤ 1152) (h0 : LL 0 = [(1, 0, 0, 1)]) (hE : (LL N).length = N)
    (HR0 : ∀ i, i < N → ∃ L1 a b c d sb tb, RpR S T N i (LL i) L1 (LL (i + 1)) a b c d sb tb)
    (HO0 : ∀ W, Calls Try.prog 24 #[.agg #[.int .i64 k, .int .i64 n]] W fun e w' => ∃ AS cS AT cT vl, e = .returned (.tuple #[.agg #[.slice AS S.length cS, .slice AT T.length cT], vl, .int .i64 0]) ∧ RdZ w' w'.heap.size AS cS S ∧ RdZ w' w'.heap.size AT cT T ∧ Below W.heap.size W w') :
    Calls Try.prog 26 #[.agg #[.int .i64 k, .int .i64 n]] w fun e w' => ∃ g c, e = .returned (.tuple #[.slice (some ⟨g, 0, none⟩) N c, .int .i64 0]) ∧ RdM w' w'.heap.size g (LL N) ∧ Below w.heap.size w w' := by
  have HR := Lib.hid HR0
  have HO := Lib.hid HO0
  have HE := Lib.hid hE
  have H0 := Lib.hid h0
  have hNi : (N : Int) ≤ 1152 := by omega
  have hNp : (0 : Int) < (N : Int) := by omega
  have hmk := fun W => mk_mats N W hN
  have hSi : (S.length : Int) = (N : Int) := by omega
  clear HR0 HO0 hE h0
  go_enter Try.func26, Try.ntmps26
  go_upto_region 4 with (first
    | (go_at_call 24; ((with_reducible refine (HO.out _).mono ?_); rintro e w1 ⟨AS, cS, AT, cT, vl, rfl, d1, d2, hb⟩; obtain ⟨bS, oS, rfl, hbS, hcS⟩ := d1.2.2.1 (by omega); obtain ⟨bT, oT, rfl, hbT, hcT⟩ := d2.2.2.1 (by omega); have DS := Lib.hid (And.intro hbS hcS); have DT := Lib.hid (And.intro hbT hcT); have HB1 : Hid (Below w.heap.size w w1) := bel1 (Below.refl _ _) hb; clear hb d1 d2 hbS hcS hbT hcT))
    | fail)
  have HSt := Lib.hid (RP.start (w3 := w1) (AS := some ⟨bS, oS, none⟩) (AT := some ⟨bT, oT, none⟩) (cS := cS) (cT := cT) N)
  go_upto_region 5 with fail
  obtain ⟨W1, hW1⟩ : ∃ W1, W1 = ((w1.alloc (.cells #[.slice (some ⟨bS, oS, none⟩) N cS, .slice (some ⟨bT, oT, none⟩) N cT] 47)).alloc (.cells (madeCells #[.int .i64 0, .int .i64 0, .int .i64 0, .int .i64 0] (N * 4)) 26)) := ⟨_, rfl⟩
  rw [← hW1] at HSt
  rw [← hW1]
  clear hW1
  go_wp2_with (first
    | (go_at_call 48; ((with_reducible refine (r18_One _).mono ?_); rintro e w2 ⟨rfl, hb⟩; have HS2 := Lib.hid (HSt.out.below hb); obtain ⟨k1, k2, k3, k4⟩ := HS2.out.at_ hN1; have f0 := HS2.out.free 0; have f1 := HS2.out.free 1; have f2 := HS2.out.free 2; have f3 := HS2.out.free 3; have hzl := HS2.out.row.lt; simp only [Nat.zero_mul, Nat.zero_add] at k1 k2 k3 k4; clear hb))
    | fail)
  have HS3 : Hid (RP w1 ((((w2.setCell ⟨w1.heap.size + 1, 0, none⟩ (.int .i64 1)).setCell ⟨w1.heap.size + 1, 1, none⟩ (.int .i64 0)).setCell ⟨w1.heap.size + 1, 2, none⟩ (.int .i64 0)).setCell ⟨w1.heap.size + 1, 3, none⟩ (.int .i64 1)) (some ⟨bS, oS, none⟩) (some ⟨bT, oT, none⟩) cS cT N (LL 0)) := by
    rw [H0.out]
    exact Lib.hid (HS2.out.push (1, 0, 0, 1))
  obtain ⟨W2, hW2⟩ : ∃ W2, W2 = ((((w2.setCell ⟨w1.heap.size + 1, 0, none⟩ (.int .i64 1)).setCell ⟨w1.heap.size + 1, 1, none⟩ (.int .i64 0)).setCell ⟨w1.heap.size + 1, 2, none⟩ (.int .i64 0)).setCell ⟨w1.heap.size + 1, 3, none⟩ (.int .i64 1)) := ⟨_, rfl⟩
  rw [← hW2] at HS3 ⊢
  have hl0 : (LL 0).length = 1 := by rw [H0.out]; rfl
  have HL0 := Lib.hid hl0
  clear hW2 HS2 HSt k1 k2 k3 k4 f0 f1 f2 f3 hzl hl0 H0
  obtain ⟨ba, hba⟩ : ∃ ba, ba = w1.heap.size := ⟨_, rfl⟩
  go_loopw [8, 9] (fun X I wr => ∃ i : Nat, X = .int .i64 ((LL i).length : Nat) ∧ I = .int .i64 (i : Nat) ∧ i ≤ N ∧ Hid (RP w1 wr (some ⟨bS, oS, none⟩) (some ⟨bT, oT, none⟩) cS cT N (LL i))) (fun _ I _ => N - (intOf I).toNat)
  case atStart => exact ⟨0, by rw [HL0.out]; rfl, rfl, Nat.zero_le _, HS3.out⟩
  case round =>
    clear HS3
    obtain ⟨i, rfl, rfl, hiN, HW⟩ := hrel
    obtain ⟨⟨u1, u2⟩, _⟩ := two_of_block HW.out.a
    by_cases hlt : i < N
    · have hii : (i : Int) < (N : Int) := by omega
      obtain ⟨L1, a, b, c, d, sb, tb, hr⟩ := HR.out i hlt
      have HRr := Lib.hid hr
      obtain ⟨⟨ba1, ba2⟩, ⟨bb1, bb2⟩, ⟨bc1, bc2⟩, bd1, bd2⟩ := hr.bd
      simp only at ba1 ba2 bb1 bb2 bc1 bc2 bd1 bd2
      have HTmS : Hid (∀ W, Calls Try.prog 51 #[.agg #[.int .i64 a, .int .i64 b, .int .i64 c, .int .i64 d], .agg #[.int .i64 0, .int .i64 (-1), .int .i64 1, .int .i64 0]] W fun e w' => e = .returned (.agg #[.int .i64 b, .int .i64 (-a), .int .i64 d, .int .i64 (-c)]) ∧ Below W.heap.size W w') := fun W => by
        have h := times_yes a b c d 0 (-1) 1 0 W (fitB_iff.2 ⟨⟨by omega, by omega⟩, ⟨by omega, by omega⟩, ⟨by omega, by omega⟩, ⟨by omega, by omega⟩⟩) (by decide)
        rw [show a * 0 + b * 1 = b by omega, show a * -1 + b * 0 = -a by omega, show c * 0 + d * 1 = d by omega, show c * -1 + d * 0 = -c by omega] at h
        exact h
      have HTmT : Hid (∀ W, Calls Try.prog 51 #[.agg #[.int .i64 a, .int .i64 b, .int .i64 c, .int .i64 d], .agg #[.int .i64 1, .int .i64 1, .int .i64 0, .int .i64 1]] W fun e w' => e = .returned (.agg #[.int .i64 a, .int .i64 (a + b), .int .i64 c, .int .i64 (c + d)]) ∧ Below W.heap.size W w') := fun W => by
        have h := times_yes a b c d 1 1 0 1 W (fitB_iff.2 ⟨⟨by omega, by omega⟩, ⟨by omega, by omega⟩, ⟨by omega, by omega⟩, ⟨by omega, by omega⟩⟩) (by decide)
        rw [show a * 1 + b * 0 = a by omega, show a * 1 + b * 1 = a + b by omega, show c * 1 + d * 0 = c by omega, show c * 1 + d * 1 = c + d by omega] at h
        exact h
      obtain ⟨x, hx⟩ : ∃ x, x = S.getD i 0 := ⟨_, rfl⟩
      obtain ⟨y, hy⟩ : ∃ y, y = T.getD i 0 := ⟨_, rfl⟩
      have hxS : S[i]'(by omega) = x := by rw [hx, List.getD_eq_getElem?_getD, List.getElem?_eq_getElem (by omega)]; rfl
      have hyT : T[i]'(by omega) = y := by rw [hy, List.getD_eq_getElem?_getD, List.getElem?_eq_getElem (by omega)]; rfl
      have HCx : Hid (∀ {W : World}, Below w1.heap.size w1 W → W.cell? ⟨bS, oS + i, none⟩ = some (.int .i64 x)) := fun {W} hb => by
        have h := DS.out.2 i (by omega)
        rw [hxS] at h
        exact (hb.cell (p := ⟨bS, oS + i, none⟩) DS.out.1).trans h
      have HCy : Hid (∀ {W : World}, Below w1.heap.size w1 W → W.cell? ⟨bT, oT + i, none⟩ = some (.int .i64 y)) := fun {W} hb => by
        have h := DT.out.2 i (by omega)
        rw [hyT] at h
        exact (hb.cell (p := ⟨bT, oT + i, none⟩) DT.out.1).trans h
      have qs1 : decide (x = ((LL i).length : Int)) = sb := by rw [hx]; exact hr.sb_
      have qs2 : (x == ((LL i).length : Int)) = sb := qs1
      have qt1 : decide (y = (L1.length : Int)) = tb := by rw [hy]; exact hr.tb_
      have qt2 : (y == (L1.length : Int)) = tb := qt1
      have c1 := HCx.out HW.out.bel
      have hl1 := hr.len
      have hl2 := hr.len1
      have hl3 := hr.lt
      have hl4 := hr.get1.1
      clear hx hy hxS hyT hr
      go_upto_if 39 with fail
      clear c1
      go_cut [8] (fun s8 wx => s8 = .int .i64 (L1.length : Nat) ∧ Hid (RP w1 wx (some ⟨bS, oS, none⟩) (some ⟨bT, oT, none⟩) cS cT N L1))
      case first =>
        cases sb
        · have e : L1 = LL i := HRr.out.l1
          go_wp2_with fail
          go_meet
          rw [e]
          exact ⟨rfl, HW⟩
        · have e : L1 = LL i ++ [(b, -a, d, -c)] := HRr.out.l1
          have hlt2 : (LL i).length < N := HRr.out.s rfl
          have hlt3 : ((LL i).length : Int) < (N : Int) := by omega
          have He := Lib.hid e
          have hu : IntKind.i64.wrap (((LL i).length : Int) + 1) = ((LL i).length : Int) + 1 := IntWalk.i64_in _ (by omega)
          have e2 : ((LL i).length : Int) + 1 = (L1.length : Int) := by rw [e]; simp
          have He2 := Lib.hid e2
          clear e e2 qs1 qs2 qt1 qt2
          go_upto_region 11 with fail
          have M_0 := Lib.hid HW.out.drew
          have HCl : Hid (∀ {W : World}, RP w1 W (some ⟨bS, oS, none⟩) (some ⟨bT, oT, none⟩) cS cT N (LL i) → W.cell? ⟨w1.heap.size + 1, i * 4, none⟩ = some (.int .i64 a) ∧ W.cell? ⟨w1.heap.size + 1, i * 4 + 1, none⟩ = some (.int .i64 b) ∧ W.cell? ⟨w1.heap.size + 1, i * 4 + 2, none⟩ = some (.int .i64 c) ∧ W.cell? ⟨w1.heap.size + 1, i * 4 + 3, none⟩ = some (.int .i64 d)) := fun {W} h => by
            have h9 := h.at_ hlt
            rw [HRr.out.get] at h9
            exact h9
          refine region_E 8 (fun w' => w'.cell? ⟨w1.heap.size + 1, i * 4, none⟩ = some (.int .i64 a) ∧ w'.cell? ⟨w1.heap.size + 1, i * 4 + 1, none⟩ = some (.int .i64 b) ∧ w'.cell? ⟨w1.heap.size + 1, i * 4 + 2, none⟩ = some (.int .i64 c) ∧ w'.cell? ⟨w1.heap.size + 1, i * 4 + 3, none⟩ = some (.int .i64 d)) (by kernel_rfl) ?_
          have hHeld := HCl.out M_0.out
          refine take_E (n := 8) (i := 0) (v := ?vg_0) rfl (by kernel_rfl) (fun _ _ _ h => h) ?hyg_0 (by rfl) hHeld ?restg_0
          case hyg_0 => (intro w9 hSw; (try dsimp only at hSw); go_simp <;> with_reducible rfl)
          (try simp only [List.getElem_toArray, List.getElem_cons_zero, List.getElem_cons_succ, Act.put, List.setIfInBounds_toArray, List.set_cons_zero, List.set_cons_succ])
          refine take_E (n := 8) (i := 1) (v := ?vg_1) rfl (by kernel_rfl) (fun _ _ _ h => h) ?hyg_1 (by rfl) hHeld ?restg_1
          case hyg_1 => (intro w9 hSw; (try dsimp only at hSw); go_simp <;> with_reducible rfl)
          (try simp only [List.getElem_toArray, List.getElem_cons_zero, List.getElem_cons_succ, Act.put, List.setIfInBounds_toArray, List.set_cons_zero, List.set_cons_succ])
          refine take_E (n := 8) (i := 2) (v := ?vg_2) rfl (by kernel_rfl) (fun _ _ _ h => h) ?hyg_2 (by rfl) hHeld ?restg_2
          case hyg_2 => (intro w9 hSw; (try dsimp only at hSw); go_simp <;> with_reducible rfl)
          (try simp only [List.getElem_toArray, List.getElem_cons_zero, List.getElem_cons_succ, Act.put, List.setIfInBounds_toArray, List.set_cons_zero, List.set_cons_succ])
          refine take_E (n := 8) (i := 3) (v := ?vg_3) rfl (by kernel_rfl) (fun _ _ _ h => h) ?hyg_3 (by rfl) hHeld ?restg_3
          case hyg_3 => (intro w9 hSw; (try dsimp only at hSw); go_simp <;> with_reducible rfl)
          (try simp only [List.getElem_toArray, List.getElem_cons_zero, List.getElem_cons_succ, Act.put, List.setIfInBounds_toArray, List.set_cons_zero, List.set_cons_succ])
          refine take_E (n := 8) (i := 4) (v := ?vg_4) rfl (by kernel_rfl) (fun _ _ _ h => h) ?hyg_4 (by rfl) hHeld ?restg_4
          case hyg_4 => (intro w9 hSw; (try dsimp only at hSw); go_simp <;> with_reducible rfl)
          (try simp only [List.getElem_toArray, List.getElem_cons_zero, List.getElem_cons_succ, Act.put, List.setIfInBounds_toArray, List.set_cons_zero, List.set_cons_succ])
          refine take_E (n := 8) (i := 5) (v := ?vg_5) rfl (by kernel_rfl) (fun _ _ _ h => h) ?hyg_5 (by rfl) hHeld ?restg_5
          case hyg_5 => (intro w9 hSw; (try dsimp only at hSw); go_simp <;> with_reducible rfl)
          (try simp only [List.getElem_toArray, List.getElem_cons_zero, List.getElem_cons_succ, Act.put, List.setIfInBounds_toArray, List.set_cons_zero, List.set_cons_succ])
          refine one_E (n := 8) (i := 6) (by kernel_rfl) rfl (fun K hK => ?_)
          go_simp
          go_at_call 49
          refine (r18_S _).mono ?_
          rintro e w5 ⟨rfl, hb⟩
          have M_5 := Lib.hid (M_0.out.below hb)
          clear hb
          refine hK.out _ _ (fun _ => HCl.out M_5.out) (fun hHeld5 => ?_)
          clear hK K
          (try simp only [List.getElem_toArray, List.getElem_cons_zero, List.getElem_cons_succ, Act.put, List.setIfInBounds_toArray, List.set_cons_zero, List.set_cons_succ])
          refine one_E (n := 8) (i := 7) (by kernel_rfl) rfl (fun K hK => ?_)
          go_simp
          go_at_call 51
          refine (HTmS.out _).mono ?_
          rintro e w6 ⟨rfl, hb⟩
          have M_6 := Lib.hid (M_5.out.below hb)
          clear hb
          obtain ⟨k1, k2, k3, k4⟩ := M_6.out.at_ hlt2
          have f0 := M_6.out.free ((LL i).length * 4)
          have f1 := M_6.out.free ((LL i).length * 4 + 1)
          have f2 := M_6.out.free ((LL i).length * 4 + 2)
          have f3 := M_6.out.free ((LL i).length * 4 + 3)
          have hzl := M_6.out.row.lt
          refine hK.out _ _ (fun _ => HCl.out M_6.out) (fun hHeld6 => ?_)
          clear hK K
          (try simp only [List.getElem_toArray, List.getElem_cons_zero, List.getElem_cons_succ, Act.put, List.setIfInBounds_toArray, List.set_cons_zero, List.set_cons_succ])
          refine one_E (n := 8) (i := 8) (by kernel_rfl) rfl (fun K hK => ?_)
          go_simp
          refine hK.out _ _ (fun h => absurd h (by decide)) (fun hHeld9 => ?_)
          clear hK K
          (try simp only [List.getElem_toArray, List.getElem_cons_zero, List.getElem_cons_succ, Act.put, List.setIfInBounds_toArray, List.set_cons_zero, List.set_cons_succ])
          refine one_E (n := 8) (i := 9) (by kernel_rfl) rfl (fun K hK => ?_)
          go_simp
          refine hK.out _ _ (fun h => absurd h (by decide)) (fun hHeld10 => ?_)
          clear hK K
          (try simp only [List.getElem_toArray, List.getElem_cons_zero, List.getElem_cons_succ, Act.put, List.setIfInBounds_toArray, List.set_cons_zero, List.set_cons_succ])
          refine done_E (by kernel_rfl) ?_ _
          have M_7 := Lib.hid (M_6.out.push (b, -a, d, -c))
          rw [← He.out] at M_7
          go_wp2_with fail
          go_meet
          exact ⟨by rw [He2.out], M_7⟩
      case rest =>
        obtain ⟨rfl, HW1⟩ := hcut
        clear HW
        obtain ⟨⟨u1, u2⟩, _⟩ := two_of_block HW1.out.a
        have c2 := HCy.out HW1.out.bel
        go_upto_if 57 with fail
        clear c2
        cases tb
        · have e : LL (i + 1) = L1 := HRr.out.l2
          have HW2 : Hid (RP w1 wc (some ⟨bS, oS, none⟩) (some ⟨bT, oT, none⟩) cS cT N (LL (i + 1))) := by rw [e]; exact HW1
          have e2 : (L1.length : Int) = ((LL (i + 1)).length : Int) := by rw [e]
          have He2 := Lib.hid e2
          clear e e2
          go_wp2_with fail
          go_roundw
          case rel => exact ⟨i + 1, by rw [He2.out], by go_num, by omega, HW2⟩
          case measure => simp [intOf]; omega
        · have e : LL (i + 1) = L1 ++ [(a, a + b, c, c + d)] := HRr.out.l2
          have hlt2 : L1.length < N := HRr.out.t rfl
          have hlt3 : (L1.length : Int) < (N : Int) := by omega
          have He := Lib.hid e
          have hu : IntKind.i64.wrap ((L1.length : Int) + 1) = (L1.length : Int) + 1 := IntWalk.i64_in _ (by omega)
          have e2 : (L1.length : Int) + 1 = ((LL (i + 1)).length : Int) := by rw [e]; simp
          have He2 := Lib.hid e2
          clear e e2 qs1 qs2 qt1 qt2
          go_upto_region 14 with fail
          have M_0 := Lib.hid HW1.out.drew
          have HCl : Hid (∀ {W : World}, RP w1 W (some ⟨bS, oS, none⟩) (some ⟨bT, oT, none⟩) cS cT N L1 → W.cell? ⟨w1.heap.size + 1, i * 4, none⟩ = some (.int .i64 a) ∧ W.cell? ⟨w1.heap.size + 1, i * 4 + 1, none⟩ = some (.int .i64 b) ∧ W.cell? ⟨w1.heap.size + 1, i * 4 + 2, none⟩ = some (.int .i64 c) ∧ W.cell? ⟨w1.heap.size + 1, i * 4 + 3, none⟩ = some (.int .i64 d)) := fun {W} h => by
            have h9 := h.at_ hlt
            rw [HRr.out.get1.2] at h9
            exact h9
          refine region_E 8 (fun w' => w'.cell? ⟨w1.heap.size + 1, i * 4, none⟩ = some (.int .i64 a) ∧ w'.cell? ⟨w1.heap.size + 1, i * 4 + 1, none⟩ = some (.int .i64 b) ∧ w'.cell? ⟨w1.heap.size + 1, i * 4 + 2, none⟩ = some (.int .i64 c) ∧ w'.cell? ⟨w1.heap.size + 1, i * 4 + 3, none⟩ = some (.int .i64 d)) (by kernel_rfl) ?_
          have hHeld := HCl.out M_0.out
          refine take_E (n := 8) (i := 0) (v := ?vh_0) rfl (by kernel_rfl) (fun _ _ _ h => h) ?hyh_0 (by rfl) hHeld ?resth_0
          case hyh_0 => (intro w9 hSw; (try dsimp only at hSw); go_simp <;> with_reducible rfl)
          (try simp only [List.getElem_toArray, List.getElem_cons_zero, List.getElem_cons_succ, Act.put, List.setIfInBounds_toArray, List.set_cons_zero, List.set_cons_succ])
          refine take_E (n := 8) (i := 1) (v := ?vh_1) rfl (by kernel_rfl) (fun _ _ _ h => h) ?hyh_1 (by rfl) hHeld ?resth_1
          case hyh_1 => (intro w9 hSw; (try dsimp only at hSw); go_simp <;> with_reducible rfl)
          (try simp only [List.getElem_toArray, List.getElem_cons_zero, List.getElem_cons_succ, Act.put, List.setIfInBounds_toArray, List.set_cons_zero, List.set_cons_succ])
          refine take_E (n := 8) (i := 2) (v := ?vh_2) rfl (by kernel_rfl) (fun _ _ _ h => h) ?hyh_2 (by rfl) hHeld ?resth_2
          case hyh_2 => (intro w9 hSw; (try dsimp only at hSw); go_simp <;> with_reducible rfl)
          (try simp only [List.getElem_toArray, List.getElem_cons_zero, List.getElem_cons_succ, Act.put, List.setIfInBounds_toArray, List.set_cons_zero, List.set_cons_succ])
          refine take_E (n := 8) (i := 3) (v := ?vh_3) rfl (by kernel_rfl) (fun _ _ _ h => h) ?hyh_3 (by rfl) hHeld ?resth_3
          case hyh_3 => (intro w9 hSw; (try dsimp only at hSw); go_simp <;> with_reducible rfl)
          (try simp only [List.getElem_toArray, List.getElem_cons_zero, List.getElem_cons_succ, Act.put, List.setIfInBounds_toArray, List.set_cons_zero, List.set_cons_succ])
          refine take_E (n := 8) (i := 4) (v := ?vh_4) rfl (by kernel_rfl) (fun _ _ _ h => h) ?hyh_4 (by rfl) hHeld ?resth_4
          case hyh_4 => (intro w9 hSw; (try dsimp only at hSw); go_simp <;> with_reducible rfl)
          (try simp only [List.getElem_toArray, List.getElem_cons_zero, List.getElem_cons_succ, Act.put, List.setIfInBounds_toArray, List.set_cons_zero, List.set_cons_succ])
          refine take_E (n := 8) (i := 5) (v := ?vh_5) rfl (by kernel_rfl) (fun _ _ _ h => h) ?hyh_5 (by rfl) hHeld ?resth_5
          case hyh_5 => (intro w9 hSw; (try dsimp only at hSw); go_simp <;> with_reducible rfl)
          (try simp only [List.getElem_toArray, List.getElem_cons_zero, List.getElem_cons_succ, Act.put, List.setIfInBounds_toArray, List.set_cons_zero, List.set_cons_succ])
          refine one_E (n := 8) (i := 6) (by kernel_rfl) rfl (fun K hK => ?_)
          go_simp
          go_at_call 50
          refine (r18_T _).mono ?_
          rintro e w5 ⟨rfl, hb⟩
          have M_5 := Lib.hid (M_0.out.below hb)
          clear hb
          refine hK.out _ _ (fun _ => HCl.out M_5.out) (fun hHeld5 => ?_)
          clear hK K
          (try simp only [List.getElem_toArray, List.getElem_cons_zero, List.getElem_cons_succ, Act.put, List.setIfInBounds_toArray, List.set_cons_zero, List.set_cons_succ])
          refine one_E (n := 8) (i := 7) (by kernel_rfl) rfl (fun K hK => ?_)
          go_simp
          go_at_call 51
          refine (HTmT.out _).mono ?_
          rintro e w6 ⟨rfl, hb⟩
          have M_6 := Lib.hid (M_5.out.below hb)
          clear hb
          obtain ⟨k1, k2, k3, k4⟩ := M_6.out.at_ hlt2
          have f0 := M_6.out.free (L1.length * 4)
          have f1 := M_6.out.free (L1.length * 4 + 1)
          have f2 := M_6.out.free (L1.length * 4 + 2)
          have f3 := M_6.out.free (L1.length * 4 + 3)
          have hzl := M_6.out.row.lt
          refine hK.out _ _ (fun _ => HCl.out M_6.out) (fun hHeld6 => ?_)
          clear hK K
          (try simp only [List.getElem_toArray, List.getElem_cons_zero, List.getElem_cons_succ, Act.put, List.setIfInBounds_toArray, List.set_cons_zero, List.set_cons_succ])
          refine one_E (n := 8) (i := 8) (by kernel_rfl) rfl (fun K hK => ?_)
          go_simp
          refine hK.out _ _ (fun h => absurd h (by decide)) (fun hHeld9 => ?_)
          clear hK K
          (try simp only [List.getElem_toArray, List.getElem_cons_zero, List.getElem_cons_succ, Act.put, List.setIfInBounds_toArray, List.set_cons_zero, List.set_cons_succ])
          refine one_E (n := 8) (i := 9) (by kernel_rfl) rfl (fun K hK => ?_)
          go_simp
          refine hK.out _ _ (fun h => absurd h (by decide)) (fun hHeld10 => ?_)
          clear hK K
          (try simp only [List.getElem_toArray, List.getElem_cons_zero, List.getElem_cons_succ, Act.put, List.setIfInBounds_toArray, List.set_cons_zero, List.set_cons_succ])
          refine done_E (by kernel_rfl) ?_ _
          have M_7 := Lib.hid (M_6.out.push (a, a + b, c, c + d))
          rw [← He.out] at M_7
          go_wp2_with fail
          go_roundw
          case rel => exact ⟨i + 1, by rw [← He2.out], by go_num, by omega, M_7⟩
          case measure => simp [intOf]; omega
    · obtain rfl : i = N := by omega
      have hii : ¬ (i : Int) < (i : Int) := by omega
      go_wp2_with fail
      have hB : Below w.heap.size w wr := HB1.out.trans (HW.out.bel.mono HB1.out.size)
      have hrd : RdM wr wr.heap.size (w1.heap.size + 1) (LL i) := by
        refine ⟨HW.out.row.lt, fun q hq => ?_⟩
        exact HW.out.at_ (by rw [HE.out] at hq; exact hq)
      go_ret2
      exact ⟨w1.heap.size + 1, ⟨_, rfl⟩, hrd, hB⟩
/-- The list of a round is the beginning of that of the next; all are within the last. -/
theorem sl_le {co : M4 → K4} {N : Nat} (hF : SFin co N) : ∀ d i, i + d = N → (srun co i).L.length ≤ N
  | 0, i, h => by rw [show i = N by omega, hF.len]; exact Nat.le_refl _
  | d + 1, i, h => by
    obtain ⟨e1, _⟩ := srun_one i (RI.all hF.lt i (by omega)).k
    have h1 := sl_le hF d (i + 1) (by omega)
    rw [e1] at h1
    obtain ⟨E, hE⟩ := vl_ext (co := co) (srun co i).L (mS ((srun co i).L.getD i (0, 0, 0, 0)))
    obtain ⟨E', hE'⟩ := vl_ext (co := co) (vl co (srun co i).L (mS ((srun co i).L.getD i (0, 0, 0, 0)))) (mT ((srun co i).L.getD i (0, 0, 0, 0)))
    rw [hE', hE] at h1
    simp at h1
    omega
theorem iz_get (L : List Nat) (i : Nat) : (iz L).getD i 0 = ((L.getD i 0 : Nat) : Int) := by
  unfold iz
  rw [List.getD_eq_getElem?_getD, List.getElem?_map, List.getD_eq_getElem?_getD]
  cases L[i]? <;> rfl
theorem rp_round {k n : Int} {N i : Nat} (hF : KF k n N) (hi : i < N) : ∃ L1 a b c d sb tb, RpR (iz (srun (kco k n) N).S) (iz (srun (kco k n) N).T) N i (srun (kco k n) i).L L1 (srun (kco k n) (i + 1)).L a b c d sb tb := by
  obtain ⟨r1, r2⟩ := rep_round hF.fin hi
  have hlt := hF.fin.lt i hi
  have hle := sl_le hF.fin (N - i) i (by omega)
  have hle2 := sl_le hF.fin (N - (i + 1)) (i + 1) (by omega)
  have hbd := (ok_bd (hF.ok i hi)).1
  obtain ⟨E, hE⟩ := vl_ext (co := kco k n) (srun (kco k n) i).L (mS ((srun (kco k n) i).L.getD i (0, 0, 0, 0)))
  obtain ⟨L1, hL1⟩ : ∃ L1, L1 = vl (kco k n) (srun (kco k n) i).L (mS ((srun (kco k n) i).L.getD i (0, 0, 0, 0))) := ⟨_, rfl⟩
  rw [← hL1] at r1 r2 hE
  generalize hL : (srun (kco k n) i).L = L at *
  generalize hL2 : (srun (kco k n) (i + 1)).L = L2 at *
  obtain ⟨⟨a, b, c, d⟩, hm⟩ : ∃ m, m = L.getD i (0, 0, 0, 0) := ⟨_, rfl⟩
  rw [← hm] at r1 r2 hbd
  have dS : ∀ x y : Nat, decide ((x : Int) = (y : Int)) = decide (x = y) := fun x y => decide_eq_decide.2 (by omega)
  have hl1 : L1.length ≤ L2.length := by
    rw [← r2]
    split <;> simp
  refine ⟨L1, a, b, c, d, _, _, hlt, hle, by omega, hm.symm, hbd, ⟨by rw [hE]; simp; omega, ?_⟩, by rw [iz_get, dS], by rw [iz_get, dS], ?_, ?_, fun h => ?_, fun h => ?_⟩
  · rw [hE, hm]; simp [List.getD_eq_getElem?_getD, List.getElem?_append_left hlt]
  · rw [← r1]
    by_cases e : (srun (kco k n) N).S.getD i 0 = L.length
    · rw [if_pos e, decide_eq_true e]; rfl
    · rw [if_neg e, decide_eq_false e]; rfl
  · rw [← r2]
    by_cases e : (srun (kco k n) N).T.getD i 0 = L1.length
    · rw [if_pos e, decide_eq_true e]; rfl
    · rw [if_neg e, decide_eq_false e]; rfl
  · have e := of_decide_eq_true h
    rw [if_pos e] at r1
    have : L1.length = L.length + 1 := by rw [← r1]; simp
    omega
  · have e := of_decide_eq_true h
    rw [if_pos e] at r2
    have : L2.length = L1.length + 1 := by rw [← r2]; simp
    omega
theorem rreps_ok {k n : Int} (h : ckxI k n = 0) (w : World) : Calls Try.prog 26 #[.agg #[.int .i64 k, .int .i64 n]] w fun e w' => ∃ g c, e = .returned (.tuple #[.slice (some ⟨g, 0, none⟩) (olL k n).length c, .int .i64 0]) ∧ RdM w' w'.heap.size g (olL k n) ∧ Below w.heap.size w w' := by
  obtain ⟨hF, hN, _⟩ := ckx_kf h
  have hl : (olL k n).length = idxN k n.toNat := hF.fin.len
  have hp : 0 < idxN k n.toNat := by have h9 := hF.fin.ri.pos; rw [hF.fin.len] at h9; exact h9
  rw [hl]
  exact rreps_gen (LL := fun i => (srun (kco k n) i).L) w ol_len.1 ol_len.2 hp hN rfl hF.fin.len (fun i hi => rp_round hF hi) fun W => rof_ok h W
set_option maxHeartbeats 3200000 in
set_option maxRecDepth 1000000 in
theorem rreps_err {k n z : Int} (w : World) (hz : z ≠ 0) (HO0 : ∀ W, Calls Try.prog 24 #[.agg #[.int .i64 k, .int .i64 n]] W fun e w' => e = .returned (.tuple #[.agg #[.slice none 0 0, .slice none 0 0], .slice none 0 0, .int .i64 z]) ∧ Below W.heap.size W w') :
    Calls Try.prog 26 #[.agg #[.int .i64 k, .int .i64 n]] w fun e w' => e = .returned (.tuple #[.slice none 0 0, .int .i64 z]) ∧ Below w.heap.size w w' := by
  have HO := Lib.hid HO0
  have hzb : (z == 0) = false := by simpa using hz
  clear HO0
  go_enter Try.func26, Try.ntmps26
  go_wp2_with (first
    | (go_at_call 24; ((with_reducible refine (HO.out _).mono ?_); rintro e w1 ⟨rfl, hb⟩; have HB1 : Hid (Below w.heap.size w w1) := bel1 (Below.refl _ _) hb; clear hb))
    | fail)
  go_ret2
  exact ⟨rfl, HB1.out.trans ((below1 _ _).mono HB1.out.size)⟩
end Go.Proofs.Ytilfkppapimocaa
namespace Go.Proofs.Ytilfkppapimocaa
open Go.RowKit
set_option linter.unusedVariables false
set_option linter.unusedSimpArgs false

theorem rdz_nil (w : World) : RdZ w w.heap.size none 0 [] := ⟨Nat.le_refl _, by unfold maxLen; omega, fun h => absurd h (by decide), fun a h => by simp at h⟩
set_option maxHeartbeats 3200000 in
set_option maxRecDepth 1000000 in
theorem lsa_great {k n : Int} (w : World) (HG0 : ∀ W, Calls Try.prog 23 #[.agg #[.int .i64 k, .int .i64 n]] W fun e w' => e = .returned (.bool true) ∧ Below W.heap.size W w') :
    Calls Try.prog 6 #[.agg #[.int .i64 k, .int .i64 n]] w fun e w' => e = .returned (.bool true) ∧ Below w.heap.size w w' := by
  have HG := Lib.hid HG0
  have T0 : Hid ((w.alloc (.cells #[.int .i64 k, .int .i64 n] 24)).heap[w.heap.size]? = some (.cells #[.int .i64 k, .int .i64 n] 24 (0, 0))) := heap_alloc_new w _
  clear HG0
  go_enter Try.func6, Try.ntmps6
  go_wp2_with (first
    | (go_at_call 23; ((with_reducible refine (HG.out _).mono ?_); rintro e w1 ⟨rfl, hb⟩; have HB1 : Hid (Below w.heap.size w w1) := bel1 (Below.refl _ _) hb; have T1 := Lib.hid (block_below T0.out hb); clear hb))
    | (go_at_call 12; ((with_reducible refine (awake_any _).mono ?_); rintro e w2 ⟨rfl, hb⟩; have HB2 := Lib.hid (bel0 HB1.out hb); have T2 := Lib.hid (block_below T1.out hb); clear hb))
    | fail)
  go_ret
  exact ⟨rfl, HB2.out⟩
/-- A matrix of a list. -/
theorem rdm_get {W : World} {B g i : Nat} {L : List M4} (h : RdM W B g L) (hi : i < L.length) {a b c d : Int} (he : L.getD i (0, 0, 0, 0) = (a, b, c, d)) : W.cell? ⟨g, i * 4, none⟩ = some (.int .i64 a) ∧ W.cell? ⟨g, i * 4 + 1, none⟩ = some (.int .i64 b) ∧ W.cell? ⟨g, i * 4 + 2, none⟩ = some (.int .i64 c) ∧ W.cell? ⟨g, i * 4 + 3, none⟩ = some (.int .i64 d) := by
  have h2 := h.2 i hi
  rw [he] at h2
  exact h2
set_option maxHeartbeats 6400000 in
set_option maxRecDepth 1000000 in
theorem lsa_ok {k n z : Int} {S T : List Int} {LM : List M4} (w : World) (HG0 : ∀ W, Calls Try.prog 23 #[.agg #[.int .i64 k, .int .i64 n]] W fun e w' => e = .returned (.bool false) ∧ Below W.heap.size W w')
    (hl2 : LM.length ≤ 1152)
    (HO0 : ∀ W, Calls Try.prog 21 #[.agg #[.int .i64 k, .int .i64 n]] W fun e w' => ∃ AS cS AT cT, e = .returned (.tuple #[.agg #[.slice AS S.length cS, .slice AT T.length cT], .int .i64 z]) ∧ RdZ w' w'.heap.size AS cS S ∧ RdZ w' w'.heap.size AT cT T ∧ Below W.heap.size W w')
    (HR0 : ∀ W, Calls Try.prog 24 #[.agg #[.int .i64 k, .int .i64 n]] W fun e w' => ∃ AS cS AT cT vl, e = .returned (.tuple #[.agg #[.slice AS S.length cS, .slice AT T.length cT], vl, .int .i64 z]) ∧ RdZ w' w'.heap.size AS cS S ∧ RdZ w' w'.heap.size AT cT T ∧ Below W.heap.size W w')
    (HP0 : ∀ W, Calls Try.prog 25 #[.agg #[.int .i64 k, .int .i64 n]] W fun e w' => ∃ A g c, e = .returned (.tuple #[.slice A LM.length c, .int .i64 z]) ∧ (0 < LM.length → A = some ⟨g, 0, none⟩) ∧ (0 < LM.length → RdM w' w'.heap.size g LM) ∧ Below W.heap.size W w')
    (HQ0 : ∀ W, Calls Try.prog 26 #[.agg #[.int .i64 k, .int .i64 n]] W fun e w' => ∃ A g c, e = .returned (.tuple #[.slice A LM.length c, .int .i64 z]) ∧ (0 < LM.length → A = some ⟨g, 0, none⟩) ∧ (0 < LM.length → RdM w' w'.heap.size g LM) ∧ Below W.heap.size W w') :
    Calls Try.prog 6 #[.agg #[.int .i64 k, .int .i64 n]] w fun e w' => e = .returned (.bool true) ∧ Below w.heap.size w w' := by
  have HG := Lib.hid HG0
  have HO := Lib.hid HO0
  have HR := Lib.hid HR0
  have HP := Lib.hid HP0
  have HQ := Lib.hid HQ0
  have T0 : Hid ((w.alloc (.cells #[.int .i64 k, .int .i64 n] 24)).heap[w.heap.size]? = some (.cells #[.int .i64 k, .int .i64 n] 24 (0, 0))) := heap_alloc_new w _
  clear HG0 HO0 HP0 HR0 HQ0
  go_enter Try.func6, Try.ntmps6
  go_wp2_with (first
    | (go_at_call 23; ((with_reducible refine (HG.out _).mono ?_); rintro e w1 ⟨rfl, hb⟩; have HB1 : Hid (Below w.heap.size w w1) := bel1 (Below.refl _ _) hb; have T1 := Lib.hid (block_below T0.out hb); clear hb))
    | (go_at_call 12; ((with_reducible refine (awake_any _).mono ?_); rintro e w2 ⟨rfl, hb⟩; have HB2 := Lib.hid (bel0 HB1.out hb); have T2 := Lib.hid (block_below T1.out hb); obtain ⟨⟨t1, t2⟩, _⟩ := two_of_block T2.out; clear hb))
    | (go_at_call 21; ((with_reducible refine (HO.out _).mono ?_); rintro e w3 ⟨AS, cS, AT, cT, rfl, d1, d2, hb⟩; have HB3 : Hid (Below w.heap.size w (w3.alloc (.cells #[.slice AS S.length cS, .slice AT T.length cT] 47))) := bel0 (bel0 HB2.out hb) (below1 _ _); have T3 := Lib.hid (block_alloc (block_below T2.out hb) (.cells #[.slice AS S.length cS, .slice AT T.length cT] 47)); have X3 : Hid ((w3.alloc (.cells #[.slice AS S.length cS, .slice AT T.length cT] 47)).heap[w3.heap.size]? = some (.cells #[.slice AS S.length cS, .slice AT T.length cT] 47)) := heap_alloc_new w3 _; have D3 := Lib.hid (And.intro (krdz d1 (below1 w3 (.cells #[.slice AS S.length cS, .slice AT T.length cT] 47))) (krdz d2 (below1 w3 (.cells #[.slice AS S.length cS, .slice AT T.length cT] 47)))); clear t1 t2; obtain ⟨⟨t1, t2⟩, _⟩ := two_of_block T3.out; clear hb d1 d2))
    | (go_at_call 24; ((with_reducible refine (HR.out _).mono ?_); rintro e w4 ⟨BS, eS, BT, eT, vl', rfl, d1, d2, hb⟩; have HB4 : Hid (Below w.heap.size w (w4.alloc (.cells #[.slice BS S.length eS, .slice BT T.length eT] 47))) := bel0 (bel0 HB3.out hb) (below1 _ _); have T4 := Lib.hid (block_alloc (block_below T3.out hb) (.cells #[.slice BS S.length eS, .slice BT T.length eT] 47)); have X4 := Lib.hid (block_alloc (block_below X3.out hb) (.cells #[.slice BS S.length eS, .slice BT T.length eT] 47)); have Y4 : Hid ((w4.alloc (.cells #[.slice BS S.length eS, .slice BT T.length eT] 47)).heap[w4.heap.size]? = some (.cells #[.slice BS S.length eS, .slice BT T.length eT] 47)) := heap_alloc_new w4 _; have D4 := Lib.hid (And.intro (krdz (krdz D3.out.1 hb) (below1 w4 (.cells #[.slice BS S.length eS, .slice BT T.length eT] 47))) (krdz (krdz D3.out.2 hb) (below1 w4 (.cells #[.slice BS S.length eS, .slice BT T.length eT] 47)))); have E4 := Lib.hid (And.intro (krdz d1 (below1 w4 (.cells #[.slice BS S.length eS, .slice BT T.length eT] 47))) (krdz d2 (below1 w4 (.cells #[.slice BS S.length eS, .slice BT T.length eT] 47)))); clear t1 t2; obtain ⟨⟨t1, t2⟩, _⟩ := two_of_block T4.out; clear hb d1 d2))
    | (go_at_call 25; ((with_reducible refine (HP.out _).mono ?_); rintro e w5 ⟨A5, g5, c5, rfl, ha5, hr5, hb⟩; have HB5 := Lib.hid (bel0 HB4.out hb); have T5 := Lib.hid (block_below T4.out hb); have X5 := Lib.hid (block_below X4.out hb); have Y5 := Lib.hid (block_below Y4.out hb); have D5 := Lib.hid (And.intro (krdz D4.out.1 hb) (krdz D4.out.2 hb)); have E5 := Lib.hid (And.intro (krdz E4.out.1 hb) (krdz E4.out.2 hb)); have R5 := Lib.hid hr5; have A5e := Lib.hid ha5; clear t1 t2; obtain ⟨⟨t1, t2⟩, _⟩ := two_of_block T5.out; clear hb hr5 ha5))
    | (go_at_call 26; ((with_reducible refine (HQ.out _).mono ?_); rintro e w6 ⟨A6, g6, c6, rfl, ha6, hr6, hb⟩; have HB6 := Lib.hid (bel0 HB5.out hb); have X6 := Lib.hid (block_below X5.out hb); have Y6 := Lib.hid (block_below Y5.out hb); have D6 := Lib.hid (And.intro (krdz D5.out.1 hb) (krdz D5.out.2 hb)); have E6 := Lib.hid (And.intro (krdz E5.out.1 hb) (krdz E5.out.2 hb)); have R6 : Hid (0 < LM.length → RdM w6 w6.heap.size g5 LM ∧ RdM w6 w6.heap.size g6 LM) := fun h0 => ⟨(R5.out h0).up hb, hr6 h0⟩; have A6e := Lib.hid ha6; clear t1 t2; obtain ⟨⟨x1, x2⟩, _⟩ := two_of_block X6.out; obtain ⟨⟨y1, y2⟩, _⟩ := two_of_block Y6.out; clear hb hr6 ha6))
    | (go_at_call 27; ((with_reducible refine (same22 _ (Nat.le_refl _) D6.out.1 D6.out.2 E6.out.1 E6.out.2).mono ?_); rintro e w7 ⟨rfl, hb⟩; have HB7 := Lib.hid (bel0 HB6.out hb); have R7 : Hid (0 < LM.length → RdM w7 w7.heap.size g5 LM ∧ RdM w7 w7.heap.size g6 LM) := fun h0 => ⟨(R6.out h0).1.up hb, (R6.out h0).2.up hb⟩; clear x1 x2 y1 y2 hb))
    | fail)
  go_loopw [12] (fun I wr => ∃ i : Nat, I = .int .i64 (i : Nat) ∧ i ≤ LM.length ∧ Hid (Below w7.heap.size w7 wr)) (fun I _ => LM.length - (intOf I).toNat)
  case atStart => exact ⟨0, rfl, Nat.zero_le _, Below.refl _ _⟩
  case round =>
    obtain ⟨i, rfl, hi, HW⟩ := hrel
    by_cases hlt : i < LM.length
    · have hii : (i : Int) < (LM.length : Int) := by omega
      obtain ⟨⟨a, b, c, d⟩, he⟩ : ∃ m, m = LM.getD i (0, 0, 0, 0) := ⟨_, rfl⟩
      have e5 := A5e.out (by omega)
      have e6 := A6e.out (by omega)
      subst e5 e6
      obtain ⟨r1, r2⟩ := R7.out (by omega)
      obtain ⟨p1, p2, p3, p4⟩ := rdm_get (r1.up HW.out) hlt he.symm
      obtain ⟨q1, q2, q3, q4⟩ := rdm_get (r2.up HW.out) hlt he.symm
      have HW2 := Lib.hid HW.out.drew
      clear he r1 r2
      go_upto_region 14 with fail
      go_region
      go_wp2
      go_roundw
      case rel => exact ⟨i + 1, by go_num, by omega, HW2⟩
      case measure => simp [intOf]; omega
    · obtain rfl : i = LM.length := by omega
      have hk2 : ¬ (LM.length : Int) < (LM.length : Int) := by omega
      go_wp2
      go_ret
      exact ⟨rfl, bel0 HB7.out HW.out⟩
theorem lsa_walk (k n : Int) (w : World) :
    Calls Try.prog 6 #[.agg #[.int .i64 k, .int .i64 n]] w fun e w' => e = .returned (.bool true) ∧ Below w.heap.size w w' := by
  by_cases hg : grI k n = true
  · exact lsa_great w fun W => by rw [← hg]; exact great_any k n W
  · have hg' : grI k n = false := by simpa using hg
    have HG := fun W => great_any k n W
    rw [hg'] at HG
    by_cases hz : ckxI k n = 0
    · obtain ⟨hF, hN, _⟩ := ckx_kf hz
      have hl : (olL k n).length = idxN k n.toNat := hF.fin.len
      refine lsa_ok (z := 0) (LM := olL k n) w HG (by omega) (fun W => of_ok hz W) (fun W => rof_ok hz W) (fun W => (reps_ok hz W).mono ?_) (fun W => (rreps_ok hz W).mono ?_)
      · rintro e w' ⟨g, c, rfl, hr, hb⟩
        exact ⟨_, g, c, rfl, fun _ => rfl, fun _ => hr, hb⟩
      · rintro e w' ⟨g, c, rfl, hr, hb⟩
        exact ⟨_, g, c, rfl, fun _ => rfl, fun _ => hr, hb⟩
    · refine lsa_ok (S := []) (T := []) (LM := []) (z := ckxI k n) w HG (by decide) (fun W => (of_err hz W).mono ?_) (fun W => (rof_err hz W).mono ?_) (fun W => (reps_bad W hz fun W' => ckx_any k n W').mono ?_) (fun W => (rreps_err W hz fun W' => rof_err hz W').mono ?_)
      · rintro e w' ⟨rfl, hb⟩
        exact ⟨none, 0, none, 0, rfl, rdz_nil _, rdz_nil _, hb⟩
      · rintro e w' ⟨rfl, hb⟩
        exact ⟨none, 0, none, 0, _, rfl, rdz_nil _, rdz_nil _, hb⟩
      · rintro e w' ⟨rfl, hb⟩
        exact ⟨none, 0, 0, rfl, fun h => absurd h (by decide), fun h => absurd h (by decide), hb⟩
      · rintro e w' ⟨rfl, hb⟩
        exact ⟨none, 0, 0, rfl, fun h => absurd h (by decide), fun h => absurd h (by decide), hb⟩
end Go.Proofs.Ytilfkppapimocaa
