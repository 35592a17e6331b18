/- An argument that is a group, opened. The contracts of Has of all groups and all matrices, and of the reference's. SubgroupMembers answers true for all arguments. Plain mathematics of the reference's Of: two matrices lie in one coset if and only if x y^-1, reckoned modulo n, is in the group. Plain mathematics of the level of a group's action: T moves the points of the projective action in cycles whose lengths divide the level, and one cycle has that length; the matrices modulo the level determine the points. Level of an action whose cycles are known; projective and cycles in the words of points. SubgroupLevels answers true for all arguments. -/
import Derived.Test.YtilfkppapimocaaOpenM
import Derived.Test.YtilfkppapimocaaGrpL
import Derived.Test.YtilfkppapimocaaSgI
import Derived.Test.YtilfkppapimocaaMvP
import Derived.Test.YtilfkppapimocaaSgX
import Derived.Test.YtilfkppapimocaaEuM
import Derived.Test.YtilfkppapimocaaCngP
import Derived.Test.YtilfkppapimocaaCycL
import Derived.Test.YtilfkppapimocaaMvB
import Derived.Test.YtilfkppapimocaaChkL
import Derived.Deep.DeepCutAuto
import Derived.Deep.CutBlock
import Derived.Deep.RegionHeld3
import Derived.Deep.QuietTactic
namespace Go.Proofs.Ytilfkppapimocaa
open Go.ChangeShapes Go.WideShapes Go.ChangeAt Go.RowKit Go.Joins

set_option maxRecDepth 100000 in
theorem open_group_arg {H : Type} {enc : TypeId × Value → H} {W : World} {b0 : Nat} {v : Value} {d : DataW H} {p : List MemPlace} (hv : Value.okWide Try.prog W .any b0 24 v) (h : DataW.Trod enc Try.prog W 0 (fun _ => true) true 24 v d p) :
    ∃ a b : Int, v = .agg #[.int .i64 a, .int .i64 b] := by
  obtain ⟨v0, v1, y0, y1, n, rfl, hd, hp, t0, t1⟩ := open_agg2 Try.underlying24 (by kernel_rfl) (by kernel_rfl) hv h
  obtain ⟨x0, e0, _⟩ := DataW.trod_int Try.underlying22 t0
  obtain ⟨x1, e1, _⟩ := DataW.trod_int Try.underlying3 t1
  simp at e0 e1
  exact ⟨x0, x1, by rw [e0, e1]⟩
end Go.Proofs.Ytilfkppapimocaa
namespace Go.Proofs.Ytilfkppapimocaa
open Go.RowKit
set_option linter.unusedVariables false
set_option linter.unusedSimpArgs false

set_option maxHeartbeats 6400000 in
set_option maxRecDepth 1000000 in
theorem has_any (k n a b c d : Int) (w : World) : Calls Try.prog 13 #[.agg #[.int .i64 k, .int .i64 n], .agg #[.int .i64 a, .int .i64 b, .int .i64 c, .int .i64 d]] w fun e w' => e = .returned (.tuple #[.bool (hasR k n a b c d), .int .i64 (hasE k n a b c d)]) ∧ Below w.heap.size w w' := by
  have HC := Lib.hid (fun W => gcheck_any k n W)
  have HK := Lib.hid (fun W => check_any a b c d W)
  by_cases hg : gckI k n = 0
  case neg =>
    rw [show hasE k n a b c d = gckI k n from if_neg hg, show hasR k n a b c d = false from by unfold hasR; rw [show hasE k n a b c d = gckI k n from if_neg hg, if_neg hg]]
    generalize gckI k n = z at *
    go_enter Try.func13, Try.ntmps13
    go_wp2_with (first
      | (go_at_call 15; ((with_reducible refine (HC.out _).mono ?_); rintro e w1 ⟨rfl, hb⟩; have T : Hid (w1.heap[w.heap.size]? = some (.cells #[.int .i64 k, .int .i64 n] 24 (0, 0))) := block_below (block_alloc (heap_alloc_new w _) _) hb; have U : Hid (w1.heap[w.heap.size + 1]? = some (.cells #[.int .i64 a, .int .i64 b, .int .i64 c, .int .i64 d] 26 (0, 0))) := block_below (by have := heap_alloc_new (w.alloc (.cells #[.int .i64 k, .int .i64 n] 24)) (.cells #[.int .i64 a, .int .i64 b, .int .i64 c, .int .i64 d] 26); simpa using this) hb; have HB1 : Hid (Below w.heap.size w w1) := (below2 w _ _).trans (hb.mono (by simp; omega)); obtain ⟨⟨u1, u2, u3, u4⟩, _⟩ := four_of_block U.out; obtain ⟨⟨t1, t2⟩, _⟩ := two_of_block T.out; clear hb))
      | (go_at_call 35; ((with_reducible refine (HK.out _).mono ?_); rintro e w2 ⟨rfl, hb⟩; have T2 := Lib.hid (block_below T.out hb); have U2 := Lib.hid (block_below U.out hb); have HB2 : Hid (Below w.heap.size w w2) := HB1.out.trans (hb.mono HB1.out.size); clear u1 u2 u3 u4 t1 t2; obtain ⟨⟨u1, u2, u3, u4⟩, _⟩ := four_of_block U2.out; obtain ⟨⟨t1, t2⟩, _⟩ := two_of_block T2.out; clear hb))
      | fail)
    refine bodyPost_ret (v := .tuple #[.bool false, .int .i64 z]) ?_ rfl ⟨rfl, HB1.out⟩
    simp [results, Try.results13, go_sem, *]
  have hE : hasE k n a b c d = chkI a b c d := if_pos hg
  by_cases hk : chkI a b c d = 0
  case neg =>
    rw [show hasR k n a b c d = false from by unfold hasR; rw [hE, if_neg hk], hE]
    rw [hg] at HC
    clear hE hg
    generalize chkI a b c d = z at *
    go_enter Try.func13, Try.ntmps13
    go_wp2_with (first
      | (go_at_call 15; ((with_reducible refine (HC.out _).mono ?_); rintro e w1 ⟨rfl, hb⟩; have T : Hid (w1.heap[w.heap.size]? = some (.cells #[.int .i64 k, .int .i64 n] 24 (0, 0))) := block_below (block_alloc (heap_alloc_new w _) _) hb; have U : Hid (w1.heap[w.heap.size + 1]? = some (.cells #[.int .i64 a, .int .i64 b, .int .i64 c, .int .i64 d] 26 (0, 0))) := block_below (by have := heap_alloc_new (w.alloc (.cells #[.int .i64 k, .int .i64 n] 24)) (.cells #[.int .i64 a, .int .i64 b, .int .i64 c, .int .i64 d] 26); simpa using this) hb; have HB1 : Hid (Below w.heap.size w w1) := (below2 w _ _).trans (hb.mono (by simp; omega)); obtain ⟨⟨u1, u2, u3, u4⟩, _⟩ := four_of_block U.out; obtain ⟨⟨t1, t2⟩, _⟩ := two_of_block T.out; clear hb))
      | (go_at_call 35; ((with_reducible refine (HK.out _).mono ?_); rintro e w2 ⟨rfl, hb⟩; have T2 := Lib.hid (block_below T.out hb); have U2 := Lib.hid (block_below U.out hb); have HB2 : Hid (Below w.heap.size w w2) := HB1.out.trans (hb.mono HB1.out.size); clear u1 u2 u3 u4 t1 t2; obtain ⟨⟨u1, u2, u3, u4⟩, _⟩ := four_of_block U2.out; obtain ⟨⟨t1, t2⟩, _⟩ := two_of_block T2.out; clear hb))
      | fail)
    refine bodyPost_ret (v := .tuple #[.bool false, .int .i64 z]) ?_ rfl ⟨rfl, HB2.out⟩
    simp [results, Try.results13, go_sem, *]
  rw [show hasR k n a b c d = hasV k n a b c d from by unfold hasR; rw [hE, if_pos hk], hE, hk]
  rw [hk] at HK
  obtain ⟨hkk, ⟨n1, n2⟩⟩ : (1 ≤ k ∧ k ≤ 4) ∧ (1 ≤ n ∧ n ≤ 120) := by
    rcases gck_cases k n with ⟨_, e⟩ | ⟨_, _, e⟩ | ⟨h, h2, _⟩
    · rw [hg] at e; exact absurd e (by decide)
    · rw [hg] at e; exact absurd e (by decide)
    · exact ⟨h, h2⟩
  obtain ⟨⟨a1, a2⟩, ⟨b1, b2⟩, ⟨c1, c2⟩, ⟨e1, e2⟩⟩ : (-1073741824 ≤ a ∧ a ≤ 1073741824) ∧ (-1073741824 ≤ b ∧ b ≤ 1073741824) ∧ (-1073741824 ≤ c ∧ c ≤ 1073741824) ∧ (-1073741824 ≤ d ∧ d ≤ 1073741824) := by
    rcases chk_cases a b c d with ⟨_, e⟩ | ⟨h, _, _⟩ | ⟨_, _, e⟩
    · rw [hk] at e; exact absurd e (by decide)
    · exact fitB_iff.1 h
    · rw [hk] at e; exact absurd e (by decide)
  rw [hg] at HC
  clear hE hk hg
  have hn0 : ¬ n = 0 := by omega
  rcases four_kinds hkk with rfl | rfl | rfl | rfl
  all_goals clear hkk
  · skip
    by_cases h1 : (a - 1).tmod n = 0 <;> by_cases h3 : c.tmod n = 0
    all_goals
      generalize hv : hasV 1 n a b c d = v
      simp [hasV, h1, h3] at hv
      subst hv
      go_enter Try.func13, Try.ntmps13
      go_upto_region 7 with (first
        | (go_at_call 15; ((with_reducible refine (HC.out _).mono ?_); rintro e w1 ⟨rfl, hb⟩; have T : Hid (w1.heap[w.heap.size]? = some (.cells #[.int .i64 1, .int .i64 n] 24 (0, 0))) := block_below (block_alloc (heap_alloc_new w _) _) hb; have U : Hid (w1.heap[w.heap.size + 1]? = some (.cells #[.int .i64 a, .int .i64 b, .int .i64 c, .int .i64 d] 26 (0, 0))) := block_below (by have := heap_alloc_new (w.alloc (.cells #[.int .i64 1, .int .i64 n] 24)) (.cells #[.int .i64 a, .int .i64 b, .int .i64 c, .int .i64 d] 26); simpa using this) hb; have HB1 : Hid (Below w.heap.size w w1) := (below2 w _ _).trans (hb.mono (by simp; omega)); obtain ⟨⟨u1, u2, u3, u4⟩, _⟩ := four_of_block U.out; obtain ⟨⟨t1, t2⟩, _⟩ := two_of_block T.out; clear hb))
        | (go_at_call 35; ((with_reducible refine (HK.out _).mono ?_); rintro e w2 ⟨rfl, hb⟩; have T2 := Lib.hid (block_below T.out hb); have U2 := Lib.hid (block_below U.out hb); have HB2 : Hid (Below w.heap.size w w2) := HB1.out.trans (hb.mono HB1.out.size); clear u1 u2 u3 u4 t1 t2; obtain ⟨⟨u1, u2, u3, u4⟩, _⟩ := four_of_block U2.out; obtain ⟨⟨t1, t2⟩, _⟩ := two_of_block T2.out; clear hb))
        | fail)
      go_region
      go_wp2
      refine bodyPost_ret ?_ rfl ⟨rfl, HB2.out.drew⟩
      simp [results, Try.results13, go_sem, *]
  · skip
    by_cases h1 : (a - 1).tmod n = 0 <;> by_cases h2 : (d - 1).tmod n = 0 <;> by_cases h3 : c.tmod n = 0
    all_goals
      generalize hv : hasV 2 n a b c d = v
      simp [hasV, h1, h2, h3] at hv
      subst hv
      go_enter Try.func13, Try.ntmps13
      go_upto_region 7 with (first
        | (go_at_call 15; ((with_reducible refine (HC.out _).mono ?_); rintro e w1 ⟨rfl, hb⟩; have T : Hid (w1.heap[w.heap.size]? = some (.cells #[.int .i64 2, .int .i64 n] 24 (0, 0))) := block_below (block_alloc (heap_alloc_new w _) _) hb; have U : Hid (w1.heap[w.heap.size + 1]? = some (.cells #[.int .i64 a, .int .i64 b, .int .i64 c, .int .i64 d] 26 (0, 0))) := block_below (by have := heap_alloc_new (w.alloc (.cells #[.int .i64 2, .int .i64 n] 24)) (.cells #[.int .i64 a, .int .i64 b, .int .i64 c, .int .i64 d] 26); simpa using this) hb; have HB1 : Hid (Below w.heap.size w w1) := (below2 w _ _).trans (hb.mono (by simp; omega)); obtain ⟨⟨u1, u2, u3, u4⟩, _⟩ := four_of_block U.out; obtain ⟨⟨t1, t2⟩, _⟩ := two_of_block T.out; clear hb))
        | (go_at_call 35; ((with_reducible refine (HK.out _).mono ?_); rintro e w2 ⟨rfl, hb⟩; have T2 := Lib.hid (block_below T.out hb); have U2 := Lib.hid (block_below U.out hb); have HB2 : Hid (Below w.heap.size w w2) := HB1.out.trans (hb.mono HB1.out.size); clear u1 u2 u3 u4 t1 t2; obtain ⟨⟨u1, u2, u3, u4⟩, _⟩ := four_of_block U2.out; obtain ⟨⟨t1, t2⟩, _⟩ := two_of_block T2.out; clear hb))
        | fail)
      go_region
      go_wp2
      refine bodyPost_ret ?_ rfl ⟨rfl, HB2.out.drew⟩
      simp [results, Try.results13, go_sem, *]
  · skip
    by_cases h1 : (a - 1).tmod n = 0 <;> by_cases h2 : (d - 1).tmod n = 0 <;> by_cases h3 : c.tmod n = 0 <;> by_cases h4 : b.tmod n = 0
    all_goals
      generalize hv : hasV 3 n a b c d = v
      simp [hasV, h1, h2, h3, h4] at hv
      subst hv
      go_enter Try.func13, Try.ntmps13
      go_upto_region 7 with (first
        | (go_at_call 15; ((with_reducible refine (HC.out _).mono ?_); rintro e w1 ⟨rfl, hb⟩; have T : Hid (w1.heap[w.heap.size]? = some (.cells #[.int .i64 3, .int .i64 n] 24 (0, 0))) := block_below (block_alloc (heap_alloc_new w _) _) hb; have U : Hid (w1.heap[w.heap.size + 1]? = some (.cells #[.int .i64 a, .int .i64 b, .int .i64 c, .int .i64 d] 26 (0, 0))) := block_below (by have := heap_alloc_new (w.alloc (.cells #[.int .i64 3, .int .i64 n] 24)) (.cells #[.int .i64 a, .int .i64 b, .int .i64 c, .int .i64 d] 26); simpa using this) hb; have HB1 : Hid (Below w.heap.size w w1) := (below2 w _ _).trans (hb.mono (by simp; omega)); obtain ⟨⟨u1, u2, u3, u4⟩, _⟩ := four_of_block U.out; obtain ⟨⟨t1, t2⟩, _⟩ := two_of_block T.out; clear hb))
        | (go_at_call 35; ((with_reducible refine (HK.out _).mono ?_); rintro e w2 ⟨rfl, hb⟩; have T2 := Lib.hid (block_below T.out hb); have U2 := Lib.hid (block_below U.out hb); have HB2 : Hid (Below w.heap.size w w2) := HB1.out.trans (hb.mono HB1.out.size); clear u1 u2 u3 u4 t1 t2; obtain ⟨⟨u1, u2, u3, u4⟩, _⟩ := four_of_block U2.out; obtain ⟨⟨t1, t2⟩, _⟩ := two_of_block T2.out; clear hb))
        | fail)
      go_region
      go_wp2
      refine bodyPost_ret ?_ rfl ⟨rfl, HB2.out.drew⟩
      simp [results, Try.results13, go_sem, *]
  · skip
    by_cases h1 : (a - 1).tmod n = 0 <;> by_cases h4 : b.tmod n = 0
    all_goals
      generalize hv : hasV 4 n a b c d = v
      simp [hasV, h1, h4] at hv
      subst hv
      go_enter Try.func13, Try.ntmps13
      go_upto_region 7 with (first
        | (go_at_call 15; ((with_reducible refine (HC.out _).mono ?_); rintro e w1 ⟨rfl, hb⟩; have T : Hid (w1.heap[w.heap.size]? = some (.cells #[.int .i64 4, .int .i64 n] 24 (0, 0))) := block_below (block_alloc (heap_alloc_new w _) _) hb; have U : Hid (w1.heap[w.heap.size + 1]? = some (.cells #[.int .i64 a, .int .i64 b, .int .i64 c, .int .i64 d] 26 (0, 0))) := block_below (by have := heap_alloc_new (w.alloc (.cells #[.int .i64 4, .int .i64 n] 24)) (.cells #[.int .i64 a, .int .i64 b, .int .i64 c, .int .i64 d] 26); simpa using this) hb; have HB1 : Hid (Below w.heap.size w w1) := (below2 w _ _).trans (hb.mono (by simp; omega)); obtain ⟨⟨u1, u2, u3, u4⟩, _⟩ := four_of_block U.out; obtain ⟨⟨t1, t2⟩, _⟩ := two_of_block T.out; clear hb))
        | (go_at_call 35; ((with_reducible refine (HK.out _).mono ?_); rintro e w2 ⟨rfl, hb⟩; have T2 := Lib.hid (block_below T.out hb); have U2 := Lib.hid (block_below U.out hb); have HB2 : Hid (Below w.heap.size w w2) := HB1.out.trans (hb.mono HB1.out.size); clear u1 u2 u3 u4 t1 t2; obtain ⟨⟨u1, u2, u3, u4⟩, _⟩ := four_of_block U2.out; obtain ⟨⟨t1, t2⟩, _⟩ := two_of_block T2.out; clear hb))
        | fail)
      go_region
      go_wp2
      refine bodyPost_ret ?_ rfl ⟨rfl, HB2.out.drew⟩
      simp [results, Try.results13, go_sem, *]
end Go.Proofs.Ytilfkppapimocaa
namespace Go.Proofs.Ytilfkppapimocaa
open Go.RowKit
set_option linter.unusedVariables false
set_option linter.unusedSimpArgs false

/-- Whether a group has more cosets than the laws look at. -/
def grI (k n : Int) : Bool := decide (gckI k n = 0) && (decide (400 < idxI k n) && decide (idxI k n ≤ 1152))
set_option maxHeartbeats 3200000 in
set_option maxRecDepth 1000000 in
theorem great_any (k n : Int) (w : World) : Calls Try.prog 23 #[.agg #[.int .i64 k, .int .i64 n]] w fun e w' => e = .returned (.bool (grI k n)) ∧ Below w.heap.size w w' := by
  have HR := Lib.hid (fun W => rindex_any k n W)
  unfold grI
  generalize gckI k n = z at *
  generalize idxI k n = x at *
  by_cases hz : z = 0
  · subst hz
    by_cases h1 : 400 < x
    · by_cases h2 : x ≤ 1152
      · rw [decide_eq_true h1, decide_eq_true h2]
        have d1 : decide (400 < x) = true := decide_eq_true h1
        have d2 : decide (x ≤ 1152) = true := decide_eq_true h2
        go_enter Try.func23, Try.ntmps23
        go_wp2_with (first
          | (go_at_call 20; ((with_reducible refine (HR.out _).mono ?_); rintro e w1 ⟨rfl, hb⟩; have HB1 : Hid (Below w.heap.size w w1) := bel1 (Below.refl _ _) hb; clear hb))
          | fail)
        go_ret
        exact ⟨rfl, HB1.out⟩
      · rw [decide_eq_true h1, decide_eq_false h2]
        have d1 : decide (400 < x) = true := decide_eq_true h1
        have d2 : decide (x ≤ 1152) = false := decide_eq_false h2
        go_enter Try.func23, Try.ntmps23
        go_wp2_with (first
          | (go_at_call 20; ((with_reducible refine (HR.out _).mono ?_); rintro e w1 ⟨rfl, hb⟩; have HB1 : Hid (Below w.heap.size w w1) := bel1 (Below.refl _ _) hb; clear hb))
          | fail)
        go_ret
        exact ⟨rfl, HB1.out⟩
    · rw [decide_eq_false h1]
      have d1 : decide (400 < x) = false := decide_eq_false h1
      go_enter Try.func23, Try.ntmps23
      go_wp2_with (first
        | (go_at_call 20; ((with_reducible refine (HR.out _).mono ?_); rintro e w1 ⟨rfl, hb⟩; have HB1 : Hid (Below w.heap.size w w1) := bel1 (Below.refl _ _) hb; clear hb))
        | fail)
      go_ret
      exact ⟨rfl, HB1.out⟩
  · rw [decide_eq_false hz]
    have hzb : (z == 0) = false := by simpa using hz
    go_enter Try.func23, Try.ntmps23
    go_wp2_with (first
      | (go_at_call 20; ((with_reducible refine (HR.out _).mono ?_); rintro e w1 ⟨rfl, hb⟩; have HB1 : Hid (Below w.heap.size w w1) := bel1 (Below.refl _ _) hb; clear hb))
      | fail)
    go_ret
    exact ⟨rfl, HB1.out⟩
/-- The boxes of a group and a matrix. -/
structure G2 (w W : World) (k n a b c d : Int) : Prop where
  g : W.heap[w.heap.size]? = some (.cells #[.int .i64 k, .int .i64 n] 24 (0, 0))
  m : W.heap[w.heap.size + 1]? = some (.cells #[.int .i64 a, .int .i64 b, .int .i64 c, .int .i64 d] 26 (0, 0))
  bel : Below w.heap.size w W
theorem G2.start (w : World) (k n a b c d : Int) : G2 w ((w.alloc (.cells #[.int .i64 k, .int .i64 n] 24)).alloc (.cells #[.int .i64 a, .int .i64 b, .int .i64 c, .int .i64 d] 26)) k n a b c d := by
  have h1 : (w.alloc (.cells #[.int .i64 k, .int .i64 n] 24)).heap.size = w.heap.size + 1 := by simp
  have := heap_alloc_new (w.alloc (.cells #[.int .i64 k, .int .i64 n] 24)) (.cells #[.int .i64 a, .int .i64 b, .int .i64 c, .int .i64 d] 26)
  rw [h1] at this
  exact ⟨block_alloc (heap_alloc_new w _) _, this, below2 w _ _⟩
theorem G2.below {w W W' : World} {k n a b c d : Int} (h : G2 w W k n a b c d) (hb : Below W.heap.size W W') : G2 w W' k n a b c d := ⟨block_below h.g hb, block_below h.m hb, bel0 h.bel hb⟩
theorem G2.cells {w W : World} {k n a b c d : Int} (h : G2 w W k n a b c d) : (W.cell? ⟨w.heap.size, 0, none⟩ = some (.int .i64 k) ∧ W.cell? ⟨w.heap.size, 1, none⟩ = some (.int .i64 n)) ∧
    (W.cell? ⟨w.heap.size + 1, 0, none⟩ = some (.int .i64 a) ∧ W.cell? ⟨w.heap.size + 1, 1, none⟩ = some (.int .i64 b) ∧ W.cell? ⟨w.heap.size + 1, 2, none⟩ = some (.int .i64 c) ∧ W.cell? ⟨w.heap.size + 1, 3, none⟩ = some (.int .i64 d)) := ⟨(two_of_block h.g).1, (four_of_block h.m).1⟩
theorem krdz {w w' : World} {A : Option Addr} {c : Nat} {l : List Int} (h : RdZ w w.heap.size A c l) (hb : Below w.heap.size w w') : RdZ w' w'.heap.size A c l := (h.below hb).mono hb.size
set_option maxHeartbeats 3200000 in
set_option maxRecDepth 1000000 in
theorem lmem_great {k n a b c d : Int} (w : World) (HG0 : ∀ W, Calls Try.prog 23 #[.agg #[.int .i64 k, .int .i64 n]] W fun e w' => e = .returned (.bool true) ∧ Below W.heap.size W w') :
    Calls Try.prog 7 #[.agg #[.int .i64 k, .int .i64 n], .agg #[.int .i64 a, .int .i64 b, .int .i64 c, .int .i64 d]] w fun e w' => e = .returned (.bool true) ∧ Below w.heap.size w w' := by
  have HG := Lib.hid HG0
  have F0 := Lib.hid (G2.start w k n a b c d)
  obtain ⟨⟨t1, t2⟩, _⟩ := F0.out.cells
  clear HG0
  go_enter Try.func7, Try.ntmps7
  go_wp2_with (first
    | (go_at_call 23; ((with_reducible refine (HG.out _).mono ?_); rintro e w1 ⟨rfl, hb⟩; have F1 := Lib.hid (F0.out.below hb); clear hb))
    | (go_at_call 12; ((with_reducible refine (awake_any _).mono ?_); rintro e w2 ⟨rfl, hb⟩; have F2 := Lib.hid (F1.out.below hb); clear hb))
    | fail)
  go_ret
  exact ⟨rfl, F2.out.bel⟩
set_option maxHeartbeats 3200000 in
set_option maxRecDepth 1000000 in
theorem lmem_of {k n a b c d z y : Int} {u : Bool} (w : World) (HG0 : ∀ W, Calls Try.prog 23 #[.agg #[.int .i64 k, .int .i64 n]] W fun e w' => e = .returned (.bool false) ∧ Below W.heap.size W w') (hz : z ≠ 0) (HO0 : ∀ W, Calls Try.prog 21 #[.agg #[.int .i64 k, .int .i64 n]] W fun e w' => e = .returned (.tuple #[.agg #[.slice none 0 0, .slice none 0 0], .int .i64 z]) ∧ Below W.heap.size W w') (HH0 : ∀ W, Calls Try.prog 13 #[.agg #[.int .i64 k, .int .i64 n], .agg #[.int .i64 a, .int .i64 b, .int .i64 c, .int .i64 d]] W fun e w' => e = .returned (.tuple #[.bool u, .int .i64 y]) ∧ Below W.heap.size W w') :
    Calls Try.prog 7 #[.agg #[.int .i64 k, .int .i64 n], .agg #[.int .i64 a, .int .i64 b, .int .i64 c, .int .i64 d]] w fun e w' => e = .returned (.bool true) ∧ Below w.heap.size w w' := by
  have HG := Lib.hid HG0
  have HO := Lib.hid HO0
  have HH := Lib.hid HH0
  have F0 := Lib.hid (G2.start w k n a b c d)
  have hzb : (z == 0) = false := by simpa using hz
  clear HG0 HO0 HH0
  go_enter Try.func7, Try.ntmps7
  go_wp2_with (first
    | (go_at_call 23; ((with_reducible refine (HG.out _).mono ?_); rintro e w1 ⟨rfl, hb⟩; have F1 := Lib.hid (F0.out.below hb); clear hb))
    | (go_at_call 12; ((with_reducible refine (awake_any _).mono ?_); rintro e w2 ⟨rfl, hb⟩; have F2 := Lib.hid (F1.out.below hb); obtain ⟨⟨t1, t2⟩, ⟨m1, m2, m3, m4⟩⟩ := F2.out.cells; clear hb))
    | (go_at_call 21; ((with_reducible refine (HO.out _).mono ?_); rintro e w3 ⟨rfl, hb⟩; have F3 := Lib.hid ((F2.out.below hb).below (below1 w3 (.cells #[.slice none 0 0, .slice none 0 0] 47))); clear t1 t2 m1 m2 m3 m4; obtain ⟨⟨t1, t2⟩, ⟨m1, m2, m3, m4⟩⟩ := F3.out.cells; clear hb))
    | (go_at_call 13; ((with_reducible refine (HH.out _).mono ?_); rintro e w4 ⟨rfl, hb⟩; have F4 := Lib.hid (F3.out.below hb); clear t1 t2 m1 m2 m3 m4; clear hb))
    | fail)
  go_ret
  exact ⟨rfl, F4.out.bel⟩
set_option maxHeartbeats 3200000 in
set_option maxRecDepth 1000000 in
theorem lmem_has {k n a b c d y : Int} {u : Bool} {L L' : List Int} (w : World) (HG0 : ∀ W, Calls Try.prog 23 #[.agg #[.int .i64 k, .int .i64 n]] W fun e w' => e = .returned (.bool false) ∧ Below W.heap.size W w') (hy : y ≠ 0) (HO0 : ∀ W, Calls Try.prog 21 #[.agg #[.int .i64 k, .int .i64 n]] W fun e w' => ∃ AS cS AT cT, e = .returned (.tuple #[.agg #[.slice AS L.length cS, .slice AT L'.length cT], .int .i64 0]) ∧ RdZ w' w'.heap.size AS cS L ∧ RdZ w' w'.heap.size AT cT L' ∧ Below W.heap.size W w') (HH0 : ∀ W, Calls Try.prog 13 #[.agg #[.int .i64 k, .int .i64 n], .agg #[.int .i64 a, .int .i64 b, .int .i64 c, .int .i64 d]] W fun e w' => e = .returned (.tuple #[.bool u, .int .i64 y]) ∧ Below W.heap.size W w') :
    Calls Try.prog 7 #[.agg #[.int .i64 k, .int .i64 n], .agg #[.int .i64 a, .int .i64 b, .int .i64 c, .int .i64 d]] w fun e w' => e = .returned (.bool true) ∧ Below w.heap.size w w' := by
  have HG := Lib.hid HG0
  have HO := Lib.hid HO0
  have HH := Lib.hid HH0
  have F0 := Lib.hid (G2.start w k n a b c d)
  have hzb : (y == 0) = false := by simpa using hy
  clear HG0 HO0 HH0
  go_enter Try.func7, Try.ntmps7
  go_wp2_with (first
    | (go_at_call 23; ((with_reducible refine (HG.out _).mono ?_); rintro e w1 ⟨rfl, hb⟩; have F1 := Lib.hid (F0.out.below hb); clear hb))
    | (go_at_call 12; ((with_reducible refine (awake_any _).mono ?_); rintro e w2 ⟨rfl, hb⟩; have F2 := Lib.hid (F1.out.below hb); obtain ⟨⟨t1, t2⟩, ⟨m1, m2, m3, m4⟩⟩ := F2.out.cells; clear hb))
    | (go_at_call 21; ((with_reducible refine (HO.out _).mono ?_); rintro e w3 ⟨AS, cS, AT, cT, rfl, d1, d2, hb⟩; have F3 := Lib.hid ((F2.out.below hb).below (below1 w3 (.cells #[.slice AS L.length cS, .slice AT L'.length cT] 47))); have X3 : Hid ((w3.alloc (.cells #[.slice AS L.length cS, .slice AT L'.length cT] 47)).heap[w3.heap.size]? = some (.cells #[.slice AS L.length cS, .slice AT L'.length cT] 47)) := heap_alloc_new w3 _; have D3 : Hid (RdZ (w3.alloc (.cells #[.slice AS L.length cS, .slice AT L'.length cT] 47)) (w3.alloc (.cells #[.slice AS L.length cS, .slice AT L'.length cT] 47)).heap.size AS cS L ∧ RdZ (w3.alloc (.cells #[.slice AS L.length cS, .slice AT L'.length cT] 47)) (w3.alloc (.cells #[.slice AS L.length cS, .slice AT L'.length cT] 47)).heap.size AT cT L') := ⟨krdz d1 (below1 w3 (.cells #[.slice AS L.length cS, .slice AT L'.length cT] 47)), krdz d2 (below1 w3 (.cells #[.slice AS L.length cS, .slice AT L'.length cT] 47))⟩; clear t1 t2 m1 m2 m3 m4; obtain ⟨⟨t1, t2⟩, ⟨m1, m2, m3, m4⟩⟩ := F3.out.cells; clear hb d1 d2))
    | (go_at_call 13; ((with_reducible refine (HH.out _).mono ?_); rintro e w4 ⟨rfl, hb⟩; have F4 := Lib.hid (F3.out.below hb); clear t1 t2 m1 m2 m3 m4; clear hb))
    | fail)
  go_ret
  exact ⟨rfl, F4.out.bel⟩
set_option maxHeartbeats 3200000 in
set_option maxRecDepth 1000000 in
theorem lmem_ok {k n a b c d y : Int} {u : Bool} {L L' : List Int} (w : World) (HG0 : ∀ W, Calls Try.prog 23 #[.agg #[.int .i64 k, .int .i64 n]] W fun e w' => e = .returned (.bool false) ∧ Below W.heap.size W w') (hy : y = 0) (HO0 : ∀ W, Calls Try.prog 21 #[.agg #[.int .i64 k, .int .i64 n]] W fun e w' => ∃ AS cS AT cT, e = .returned (.tuple #[.agg #[.slice AS L.length cS, .slice AT L'.length cT], .int .i64 0]) ∧ RdZ w' w'.heap.size AS cS L ∧ RdZ w' w'.heap.size AT cT L' ∧ Below W.heap.size W w') (HH0 : ∀ W, Calls Try.prog 13 #[.agg #[.int .i64 k, .int .i64 n], .agg #[.int .i64 a, .int .i64 b, .int .i64 c, .int .i64 d]] W fun e w' => e = .returned (.tuple #[.bool u, .int .i64 y]) ∧ Below W.heap.size W w')
    (HC0 : ∀ (W : World) (A : Option Addr) (c1 : Nat) (A' : Option Addr) (c2 : Nat), RdZ W W.heap.size A c1 L → RdZ W W.heap.size A' c2 L' → Calls Try.prog 28 #[.agg #[.slice A L.length c1, .slice A' L'.length c2], .agg #[.int .i64 a, .int .i64 b, .int .i64 c, .int .i64 d]] W fun e w' => e = .returned (.tuple #[.bool u, .int .i64 0]) ∧ Below W.heap.size W w') :
    Calls Try.prog 7 #[.agg #[.int .i64 k, .int .i64 n], .agg #[.int .i64 a, .int .i64 b, .int .i64 c, .int .i64 d]] w fun e w' => e = .returned (.bool true) ∧ Below w.heap.size w w' := by
  subst hy
  have HG := Lib.hid HG0
  have HO := Lib.hid HO0
  have HH := Lib.hid HH0
  have HC := Lib.hid HC0
  have F0 := Lib.hid (G2.start w k n a b c d)
  clear HG0 HO0 HH0 HC0
  rcases u with _ | _
  all_goals
    go_enter Try.func7, Try.ntmps7
    go_wp2_with (first
      | (go_at_call 23; ((with_reducible refine (HG.out _).mono ?_); rintro e w1 ⟨rfl, hb⟩; have F1 := Lib.hid (F0.out.below hb); clear hb))
      | (go_at_call 12; ((with_reducible refine (awake_any _).mono ?_); rintro e w2 ⟨rfl, hb⟩; have F2 := Lib.hid (F1.out.below hb); obtain ⟨⟨t1, t2⟩, ⟨m1, m2, m3, m4⟩⟩ := F2.out.cells; clear hb))
      | (go_at_call 21; ((with_reducible refine (HO.out _).mono ?_); rintro e w3 ⟨AS, cS, AT, cT, rfl, d1, d2, hb⟩; have F3 := Lib.hid ((F2.out.below hb).below (below1 w3 (.cells #[.slice AS L.length cS, .slice AT L'.length cT] 47))); have X3 : Hid ((w3.alloc (.cells #[.slice AS L.length cS, .slice AT L'.length cT] 47)).heap[w3.heap.size]? = some (.cells #[.slice AS L.length cS, .slice AT L'.length cT] 47)) := heap_alloc_new w3 _; have D3 : Hid (RdZ (w3.alloc (.cells #[.slice AS L.length cS, .slice AT L'.length cT] 47)) (w3.alloc (.cells #[.slice AS L.length cS, .slice AT L'.length cT] 47)).heap.size AS cS L ∧ RdZ (w3.alloc (.cells #[.slice AS L.length cS, .slice AT L'.length cT] 47)) (w3.alloc (.cells #[.slice AS L.length cS, .slice AT L'.length cT] 47)).heap.size AT cT L') := ⟨krdz d1 (below1 w3 (.cells #[.slice AS L.length cS, .slice AT L'.length cT] 47)), krdz d2 (below1 w3 (.cells #[.slice AS L.length cS, .slice AT L'.length cT] 47))⟩; clear t1 t2 m1 m2 m3 m4; obtain ⟨⟨t1, t2⟩, ⟨m1, m2, m3, m4⟩⟩ := F3.out.cells; clear hb d1 d2))
      | (go_at_call 13; ((with_reducible refine (HH.out _).mono ?_); rintro e w4 ⟨rfl, hb⟩; have F4 := Lib.hid (F3.out.below hb); have X4 := Lib.hid (block_below X3.out hb); have D4 := Lib.hid (And.intro (krdz D3.out.1 hb) (krdz D3.out.2 hb)); obtain ⟨⟨x1, x2⟩, _⟩ := two_of_block X4.out; clear t1 t2 m1 m2 m3 m4; obtain ⟨⟨t1, t2⟩, ⟨m1, m2, m3, m4⟩⟩ := F4.out.cells; clear hb))
      | (go_at_call 28; ((with_reducible refine (HC.out _ _ _ _ _ D4.out.1 D4.out.2).mono ?_); rintro e w5 ⟨rfl, hb⟩; have F5 := Lib.hid (F4.out.below hb); clear t1 t2 m1 m2 m3 m4; clear hb x1 x2))
      | fail)
    go_ret
    exact ⟨rfl, F5.out.bel⟩
theorem lmem_walk (k n a b c d : Int) (w : World) :
    Calls Try.prog 7 #[.agg #[.int .i64 k, .int .i64 n], .agg #[.int .i64 a, .int .i64 b, .int .i64 c, .int .i64 d]] w fun e w' => e = .returned (.bool true) ∧ Below w.heap.size w w' := by
  by_cases hg : grI k n = true
  · exact lmem_great w fun W => by rw [← hg]; exact great_any k n W
  · have hg' : grI k n = false := by simpa using hg
    have HG := fun W => great_any k n W
    rw [hg'] at HG
    by_cases hz : ckxI k n = 0
    · by_cases hy : hasE k n a b c d = 0
      · have ha := ol_act hz
        obtain ⟨_, _, hck⟩ := ckx_kf hz
        have hk : chkI a b c d = 0 := by unfold hasE at hy; rwa [if_pos hck] at hy
        have hR : hasR k n a b c d = hasV k n a b c d := if_pos hy
        refine lmem_ok w HG hy (fun W => of_ok hz W) (fun W => has_any k n a b c d W) fun W A c1 A' c2 h1 h2 => ?_
        refine contains_k (movk_ok ha 0 a b c d (by have := ha.pos; omega) hk) _ ?_ W A c1 A' c2 h1 h2
        rw [hR, Bool.eq_iff_iff, ← mv_has hz hk]
        by_cases e : mvI (olS k n) (olT k n) 0 a b c d = 0 <;> simp [e]
      · exact lmem_has w HG hy (fun W => of_ok hz W) fun W => has_any k n a b c d W
    · exact lmem_of w HG hz (fun W => of_err hz W) fun W => has_any k n a b c d W
end Go.Proofs.Ytilfkppapimocaa
namespace Go.Proofs.Ytilfkppapimocaa
set_option linter.unusedVariables false

def mulM (x y : M4) : M4 := (x.1 * y.1 + x.2.1 * y.2.2.1, x.1 * y.2.1 + x.2.1 * y.2.2.2, x.2.2.1 * y.1 + x.2.2.2 * y.2.2.1, x.2.2.1 * y.2.1 + x.2.2.2 * y.2.2.2)
def bckM (x : M4) : M4 := (x.2.2.2, -x.2.1, -x.2.2.1, x.1)
theorem mulM_S (x g : M4) : mulM x (mS g) = mS (mulM x g) := by
  obtain ⟨a, b, c, d⟩ := x; obtain ⟨p, q, r, s⟩ := g
  simp only [mulM, mS, Prod.mk.injEq]; grind
theorem mulM_T (x g : M4) : mulM x (mT g) = mT (mulM x g) := by
  obtain ⟨a, b, c, d⟩ := x; obtain ⟨p, q, r, s⟩ := g
  simp only [mulM, mT, Prod.mk.injEq]; grind
theorem mulM_U (x g : M4) : mulM x (mU g) = mU (mulM x g) := by
  obtain ⟨a, b, c, d⟩ := x; obtain ⟨p, q, r, s⟩ := g
  simp only [mulM, mU, Prod.mk.injEq]; grind
theorem mulM_one (x : M4) : mulM x (1, 0, 0, 1) = x := by
  obtain ⟨a, b, c, d⟩ := x
  simp [mulM]
theorem mulM_dt {x y : M4} (hx : dtM x = 1) (hy : dtM y = 1) : dtM (mulM x y) = 1 := by
  obtain ⟨a, b, c, d⟩ := x; obtain ⟨p, q, r, s⟩ := y
  simp only [dtM, mulM] at *; grind
theorem mulM_bck {x : M4} (hx : dtM x = 1) : mulM x (bckM x) = (1, 0, 0, 1) := by
  obtain ⟨a, b, c, d⟩ := x
  simp only [dtM, mulM, bckM, Prod.mk.injEq] at *; grind
theorem bck_dt {x : M4} (hx : dtM x = 1) : dtM (bckM x) = 1 := by
  obtain ⟨a, b, c, d⟩ := x
  simp only [dtM, bckM] at *; grind
theorem co_mul {co : M4 → K4} (h : Cos co) {g : M4} (hg : dtM g = 1) : ∀ x y, dtM x = 1 → dtM y = 1 → (co x = co y ↔ co (mulM x g) = co (mulM y g)) := by
  refine (fun P : dtM g = 1 ∧ (∀ x y, dtM x = 1 → dtM y = 1 → (co x = co y ↔ co (mulM x g) = co (mulM y g))) => P.2) ?_
  refine sl_ind (P := fun g => dtM g = 1 ∧ ∀ x y, dtM x = 1 → dtM y = 1 → (co x = co y ↔ co (mulM x g) = co (mulM y g))) ⟨rfl, fun x y _ _ => by rw [mulM_one, mulM_one]⟩ (fun g hg P => ⟨by rw [dtM_S]; exact hg, fun x y hx hy => ?_⟩) (fun g hg P => ⟨by rw [dtM_T]; exact hg, fun x y hx hy => ?_⟩) (fun g hg P => ⟨by rw [dtM_U]; exact hg, fun x y hx hy => ?_⟩) _ g (Nat.le_refl _) hg
  · rw [P.2 x y hx hy, mulM_S, mulM_S]
    exact ⟨h.s _ _ (mulM_dt hx hg) (mulM_dt hy hg), h.si (mulM_dt hx hg) (mulM_dt hy hg)⟩
  · rw [P.2 x y hx hy, mulM_T, mulM_T]
    exact ⟨h.t _ _ (mulM_dt hx hg) (mulM_dt hy hg), h.u _ _ (mulM_dt hx hg) (mulM_dt hy hg)⟩
  · rw [P.2 x y hx hy, mulM_U, mulM_U]
    have d1 : dtM (mU (mulM x g)) = 1 := by rw [dtM_U]; exact mulM_dt hx hg
    have d2 : dtM (mU (mulM y g)) = 1 := by rw [dtM_U]; exact mulM_dt hy hg
    constructor
    · intro e
      exact h.u _ _ d1 d2 (by rw [mTU, mTU]; exact e)
    · intro e
      have := h.t _ _ d1 d2 e
      rwa [mTU, mTU] at this
theorem co_inv {co : M4 → K4} (h : Cos co) {x y : M4} (hx : dtM x = 1) (hy : dtM y = 1) : co x = co y ↔ co (mulM x (bckM y)) = co (1, 0, 0, 1) := by
  rw [co_mul h (bck_dt hy) x y hx hy, mulM_bck hy]
theorem tmz {x n : Int} : (x.tmod n == 0) = decide (n ∣ x) := by
  by_cases h : n ∣ x
  · rw [decide_eq_true h, beq_iff_eq]; exact Int.tmod_eq_zero_of_dvd h
  · rw [decide_eq_false h]
    exact beq_eq_false_iff_ne.2 fun e => h (Int.dvd_of_tmod_eq_zero e)
theorem tmz_of {x y n : Int} (h : n ∣ x - y) : (x.tmod n == 0) = (y.tmod n == 0) := by
  rw [tmz, tmz]
  obtain ⟨k, hk⟩ := h
  refine decide_eq_decide.2 ⟨fun ⟨q, hq⟩ => ⟨q - k, by grind⟩, fun ⟨q, hq⟩ => ⟨q + k, by grind⟩⟩
theorem has_cong {k n a b c d a' b' c' d' : Int} (ha : n ∣ a - a') (hb : n ∣ b - b') (hc : n ∣ c - c') (hd : n ∣ d - d') : hasV k n a b c d = hasV k n a' b' c' d' := by
  unfold hasV
  rw [tmz_of hc, tmz_of hb, tmz_of (show n ∣ (a - 1) - (a' - 1) by obtain ⟨q, hq⟩ := ha; exact ⟨q, by omega⟩), tmz_of (show n ∣ (d - 1) - (d' - 1) by obtain ⟨q, hq⟩ := hd; exact ⟨q, by omega⟩)]
/-- A matrix modulo n. -/
def mdM (n : Int) (x : M4) : M4 := (x.1 % n, x.2.1 % n, x.2.2.1 % n, x.2.2.2 % n)
theorem md_dvd (n x : Int) : n ∣ x % n - x := by
  have := Int.emod_add_mul_ediv x n
  exact ⟨-(x / n), by grind⟩
def hasM (k n : Int) (x : M4) : Bool := hasV k n x.1 x.2.1 x.2.2.1 x.2.2.2
theorem hasM_md {k n : Int} (x y : M4) : hasM k n (mulM (mdM n x) (bckM (mdM n y))) = hasM k n (mulM x (bckM y)) := by
  obtain ⟨a, b, c, d⟩ := x; obtain ⟨p, q, r, s⟩ := y
  obtain ⟨a', ha⟩ := md_dvd n a; obtain ⟨b', hb⟩ := md_dvd n b; obtain ⟨c', hc⟩ := md_dvd n c; obtain ⟨d', hd⟩ := md_dvd n d
  obtain ⟨p', hp⟩ := md_dvd n p; obtain ⟨q', hq⟩ := md_dvd n q; obtain ⟨r', hr⟩ := md_dvd n r; obtain ⟨s', hs⟩ := md_dvd n s
  have ea : a % n = a + n * a' := by omega
  have eb : b % n = b + n * b' := by omega
  have ec : c % n = c + n * c' := by omega
  have ed : d % n = d + n * d' := by omega
  have ep : p % n = p + n * p' := by omega
  have eq : q % n = q + n * q' := by omega
  have er : r % n = r + n * r' := by omega
  have es : s % n = s + n * s' := by omega
  unfold hasM mulM bckM mdM
  simp only
  rw [ea, eb, ec, ed, ep, eq, er, es]
  refine has_cong ?_ ?_ ?_ ?_
  · exact ⟨a' * s + a * s' + n * a' * s' - b' * r - b * r' - n * b' * r', by grind⟩
  · exact ⟨-a' * q - a * q' - n * a' * q' + b' * p + b * p' + n * b' * p', by grind⟩
  · exact ⟨c' * s + c * s' + n * c' * s' - d' * r - d * r' - n * d' * r', by grind⟩
  · exact ⟨-c' * q - c * q' - n * c' * q' + d' * p + d * p' + n * d' * p', by grind⟩
theorem same_has {k n : Int} (hk : 1 ≤ k ∧ k ≤ 4) (n1 : 1 ≤ n) (hC : Cos (kco k n)) {x y : M4} (hx : dtM x = 1) (hy : dtM y = 1) : kco k n x = kco k n y ↔ hasM k n (mulM (mdM n x) (bckM (mdM n y))) = true := by
  rw [co_inv hC hx hy, hasM_md]
  have hd := mulM_dt hx (bck_dt hy)
  generalize mulM x (bckM y) = z at *
  obtain ⟨a, b, c, d⟩ := z
  exact kco_has hk n1 hd
/-- Where the reference finds a matrix in its list: the first place of its coset. -/
theorem find_has {k n : Int} (hk : 1 ≤ k ∧ k ≤ 4) (n1 : 1 ≤ n) (hC : Cos (kco k n)) {x : M4} (hx : dtM x = 1) : ∀ L : List M4, (∀ y ∈ L, dtM y = 1) → (L.map (mdM n)).findIdx (fun y => hasM k n (mulM (mdM n x) (bckM y))) = (L.map (kco k n)).idxOf (kco k n x) := by
  intro L
  induction L with
  | nil => intro _; rfl
  | cons y L ih =>
    intro hL
    have hy := hL y List.mem_cons_self
    have e : hasM k n (mulM (mdM n x) (bckM (mdM n y))) = (kco k n y == kco k n x) := by
      have := same_has hk n1 hC hx hy
      by_cases h : kco k n x = kco k n y
      · rw [this.1 h, h]; simp
      · have h1 : hasM k n (mulM (mdM n x) (bckM (mdM n y))) = false := by
          cases hb : hasM k n (mulM (mdM n x) (bckM (mdM n y)))
          · rfl
          · exact absurd (this.2 hb) h
        rw [h1]; exact (beq_eq_false_iff_ne.2 fun e => h e.symm).symm
    rw [List.map_cons, List.map_cons, List.findIdx_cons, List.idxOf_cons, e, ih fun z hz => hL z (List.mem_cons_of_mem _ hz)]
theorem md_S (n : Int) (x : M4) : mdM n (mS (mdM n x)) = mdM n (mS x) := by
  obtain ⟨a, b, c, d⟩ := x
  have neg : ∀ z : Int, -(z % n) % n = -z % n := fun z => mod_iff.2 (by obtain ⟨q, hq⟩ := md_dvd n z; exact ⟨-q, by grind⟩)
  show (b % n % n, -(a % n) % n, d % n % n, -(c % n) % n) = (b % n, -a % n, d % n, -c % n)
  rw [neg a, neg c, Int.emod_emod_of_dvd _ (Int.dvd_refl n), Int.emod_emod_of_dvd _ (Int.dvd_refl n)]
theorem md_T (n : Int) (x : M4) : mdM n (mT (mdM n x)) = mdM n (mT x) := by
  obtain ⟨a, b, c, d⟩ := x
  simp [mdM, mT]
/-- The place that the reference finds for a reduced matrix. -/
def atR (k n : Int) (R : List M4) (t : M4) : Nat := R.findIdx fun y => hasM k n (mulM t (bckM y))
/-- What becomes of the reference's list. -/
def nxR (k n : Int) (R : List M4) (t : M4) : List M4 := if atR k n R t = R.length then R ++ [t] else R
theorem find_vl {k n : Int} (hk : 1 ≤ k ∧ k ≤ 4) (n1 : 1 ≤ n) (hC : Cos (kco k n)) {x : M4} (hx : dtM x = 1) (L : List M4) (hL : ∀ y ∈ L, dtM y = 1) :
    nxR k n (L.map (mdM n)) (mdM n x) = (vl (kco k n) L x).map (mdM n) ∧ atR k n (L.map (mdM n)) (mdM n x) = ((vl (kco k n) L x).map (kco k n)).idxOf (kco k n x) := by
  have hf : atR k n (L.map (mdM n)) (mdM n x) = (L.map (kco k n)).idxOf (kco k n x) := find_has hk n1 hC hx L hL
  unfold nxR
  rw [hf, List.length_map]
  unfold vl
  by_cases h : (L.map (kco k n)).contains (kco k n x) = true
  · have hm : kco k n x ∈ L.map (kco k n) := by simpa using h
    have hl := List.idxOf_lt_length_iff.2 hm
    rw [List.length_map] at hl
    rw [if_pos h, if_neg (by omega)]
    exact ⟨rfl, rfl⟩
  · have hm : kco k n x ∉ L.map (kco k n) := by simpa using h
    have hl : (L.map (kco k n)).idxOf (kco k n x) = L.length := by rw [List.idxOf_eq_length hm, List.length_map]
    rw [if_neg h, if_pos hl]
    refine ⟨by simp, ?_⟩
    rw [hl, List.map_append, List.idxOf_append, if_neg hm, List.length_map]
    simp
/-- The reference's search behind i rounds: its list, and what it has written down. -/
structure RfI (k n : Int) (i : Nat) (R : List M4) (S T : List Nat) : Prop where
  r : R = (srun (kco k n) i).L.map (mdM n)
  s : S = (srun (kco k n) i).S
  t : T = (srun (kco k n) i).T
theorem RfI.zero (k n : Int) : RfI k n 0 [mdM n (1, 0, 0, 1)] [] [] := ⟨rfl, rfl, rfl⟩
theorem RfI.get {k n : Int} {i : Nat} {R : List M4} {S T : List Nat} (h : RfI k n i R S T) {j : Nat} (hj : j < R.length) : R.getD j (0, 0, 0, 0) = mdM n ((srun (kco k n) i).L.getD j (0, 0, 0, 0)) := by
  have hr := h.r
  subst hr
  have hj' : j < (srun (kco k n) i).L.length := by simpa using hj
  simp [List.getD_eq_getElem?_getD, hj']
/-- A round. -/
theorem RfI.step {k n : Int} {N i : Nat} {R : List M4} {S T : List Nat} (hk : 1 ≤ k ∧ k ≤ 4) (n1 : 1 ≤ n) (hC : Cos (kco k n)) (hF : SFin (kco k n) N) (hi : i < N) (h : RfI k n i R S T) :
    i < R.length ∧ RfI k n (i + 1) (nxR k n (nxR k n R (mdM n (mS (R.getD i (0, 0, 0, 0))))) (mdM n (mT (R.getD i (0, 0, 0, 0))))) (S ++ [atR k n R (mdM n (mS (R.getD i (0, 0, 0, 0))))])
      (T ++ [atR k n (nxR k n R (mdM n (mS (R.getD i (0, 0, 0, 0))))) (mdM n (mT (R.getD i (0, 0, 0, 0))))]) := by
  have hl := hF.lt i hi
  have hR := RI.all hF.lt i (by omega)
  have hlR : i < R.length := by rw [h.r, List.length_map]; exact hl
  have hx : dtM ((srun (kco k n) i).L.getD i (0, 0, 0, 0)) = 1 := hR.d _ (getD_inM hl)
  obtain ⟨e1, e2, e3, e4⟩ := srun_one i hR.k
  have hg := h.get hlR
  have dS : dtM (mS ((srun (kco k n) i).L.getD i (0, 0, 0, 0))) = 1 := by rw [dtM_S]; exact hx
  have dT : dtM (mT ((srun (kco k n) i).L.getD i (0, 0, 0, 0))) = 1 := by rw [dtM_T]; exact hx
  obtain ⟨a1, a2⟩ := find_vl hk n1 hC dS (srun (kco k n) i).L hR.d
  obtain ⟨b1, b2⟩ := find_vl hk n1 hC dT (vl (kco k n) (srun (kco k n) i).L (mS ((srun (kco k n) i).L.getD i (0, 0, 0, 0)))) (vl_dt hR.d dS)
  refine ⟨hlR, ?_⟩
  rw [hg, md_S, md_T]
  have hr := h.r
  have hs := h.s
  have ht := h.t
  subst hr hs ht
  rw [a1, b1, a2, b2]
  exact ⟨by rw [e1], by rw [e3], by rw [e4, e1]⟩
theorem RfI.done {k n : Int} {N : Nat} {R : List M4} {S T : List Nat} (hF : SFin (kco k n) N) (h : RfI k n N R S T) : R.length = N := by rw [h.r, List.length_map, hF.len]
end Go.Proofs.Ytilfkppapimocaa
namespace Go.Proofs.Ytilfkppapimocaa
set_option linter.unusedVariables false

noncomputable def gO (k n : Int) (N : Nat) : Nat → Nat := fnz (iz (srun (kco k n) N).S)
noncomputable def fO (k n : Int) (N : Nat) : Nat → Nat := fnz (iz (srun (kco k n) N).T)
/-- The point of the projective action to which a matrix moves point 0. -/
noncomputable def ptO (k n : Int) (N : Nat) (x : M4) : Nat := phO (gO k n N) N (plC (kco k n) N x)
section
variable {k n : Int} {N : Nat} (hF : KF k n N)
include hF
theorem KF.pact : PAct (gO k n N) (fO k n N) N := SFin.pact hF.cos hF.fin
theorem KF.mem {x : M4} (hx : dtM x = 1) : kco k n x ∈ (srun (kco k n) N).K := SFin.all hF.cos hF.fin hx
theorem KF.pll {x : M4} (hx : dtM x = 1) : plC (kco k n) N x < N := hF.fin.pl_lt (hF.mem hx)
theorem KF.pt_lt {x : M4} (hx : dtM x = 1) : ptO k n N x < mO (gO k n N) N := hF.pact.quo.lt _ (hF.pll hx)
theorem KF.pt_S {x : M4} (hx : dtM x = 1) : sO (gO k n N) N (ptO k n N x) = ptO k n N (mS x) := by
  unfold ptO
  rw [hF.pact.ds _ (hF.pll hx)]
  exact congrArg _ (hF.fin.atS hF.cos hx (hF.mem hx))
theorem KF.pt_T {x : M4} (hx : dtM x = 1) : tO (gO k n N) (fO k n N) N (ptO k n N x) = ptO k n N (mT x) := by
  unfold ptO
  rw [hF.pact.dt _ (hF.pll hx)]
  exact congrArg _ (hF.fin.atT hF.cos hx (hF.mem hx))
theorem KF.pt_onto {j : Nat} (hj : j < mO (gO k n N) N) : ∃ x, dtM x = 1 ∧ ptO k n N x = j := by
  obtain ⟨i, hi, e⟩ := hF.pact.onto j hj
  exact ⟨_, hF.fin.dL hi, by unfold ptO; rw [hF.fin.pl_L hi]; exact e⟩
theorem KF.pt_eq {x y : M4} (hx : dtM x = 1) (hy : dtM y = 1) (e : ptO k n N x = ptO k n N y) : kco k n y = kco k n x ∨ kco k n y = kco k n (mS (mS x)) := by
  have hS : dtM (mS x) = 1 := by rw [dtM_S]; exact hx
  have hSS : dtM (mS (mS x)) = 1 := by rw [dtM_S]; exact hS
  rcases (hF.pact.quo.iff _ _ (hF.pll hx) (hF.pll hy)).1 e with h | h
  · exact .inl (hF.fin.pl_inj (hF.mem hy) (hF.mem hx) h)
  · refine .inr (hF.fin.pl_inj (hF.mem hy) (hF.mem hSS) (h.trans ?_))
    show gO k n N (gO k n N (plC (kco k n) N x)) = _
    have h1 : gO k n N (plC (kco k n) N x) = plC (kco k n) N (mS x) := hF.fin.atS hF.cos hx (hF.mem hx)
    have h2 : gO k n N (plC (kco k n) N (mS x)) = plC (kco k n) N (mS (mS x)) := hF.fin.atS hF.cos hS (hF.mem hS)
    rw [h1, h2]
omit hF in
theorem pt_same {x y : M4} (h : kco k n x = kco k n y) : ptO k n N x = ptO k n N y := by
  unfold ptO plC
  rw [h]
theorem KF.mod_same (hk : 1 ≤ k ∧ k ≤ 4) (n1 : 1 ≤ n) {x y : M4} (hx : dtM x = 1) (hy : dtM y = 1) (h : kc3 n x = kc3 n y) : ptO k n N x = ptO k n N y := by
  refine pt_same ?_
  have e : mdM n y = mdM n x := h.symm
  rw [same_has hk n1 hF.cos hx hy, e]
  exact (same_has hk n1 hF.cos hx hx).1 rfl
end
/-- x T^w. -/
def tw (w : Int) (x : M4) : M4 := (x.1, w * x.1 + x.2.1, x.2.2.1, w * x.2.2.1 + x.2.2.2)
theorem tw_dt (w : Int) (x : M4) : dtM (tw w x) = dtM x := by
  obtain ⟨a, b, c, d⟩ := x
  simp only [dtM, tw]; grind
theorem tw_zero (x : M4) : tw 0 x = x := by
  obtain ⟨a, b, c, d⟩ := x
  simp [tw]
theorem tw_succ (w : Int) (x : M4) : mT (tw w x) = tw (w + 1) x := by
  obtain ⟨a, b, c, d⟩ := x
  simp only [mT, tw, Prod.mk.injEq]; grind
section
variable {k n : Int} {N : Nat} (hF : KF k n N)
include hF
theorem KF.itr {x : M4} (hx : dtM x = 1) : ∀ w : Nat, itr (tO (gO k n N) (fO k n N) N) w (ptO k n N x) = ptO k n N (tw w x)
  | 0 => by rw [show ((0 : Nat) : Int) = 0 from rfl, tw_zero]; rfl
  | w + 1 => by
    show tO (gO k n N) (fO k n N) N (Go.Proofs.Ytilfkppapimocaa.itr _ w _) = _
    rw [KF.itr hx w, hF.pt_T (by rw [tw_dt]; exact hx), tw_succ]; rfl
theorem KF.per_dvd (hk : 1 ≤ k ∧ k ≤ 4) (n1 : 1 ≤ n) {p c : Nat} (hp : p < mO (gO k n N) N) (h : IsPer (tO (gO k n N) (fO k n N) N) p c) : c ∣ n.toNat := by
  obtain ⟨x, hx, rfl⟩ := hF.pt_onto hp
  have e : Go.Proofs.Ytilfkppapimocaa.itr (tO (gO k n N) (fO k n N) N) n.toNat (ptO k n N x) = ptO k n N x := by
    rw [hF.itr hx, show ((n.toNat : Nat) : Int) = n by omega]
    refine hF.mod_same hk n1 (by rw [tw_dt]; exact hx) hx ?_
    obtain ⟨a, b, c, d⟩ := x
    simp [kc3, tw]
  have hc := h.pos
  rw [h.mod] at e
  have hlt := Nat.mod_lt n.toNat hc
  by_cases h0 : n.toNat % c = 0
  · exact Nat.dvd_of_mod_eq_zero h0
  · exact absurd e (h.least _ (by omega) hlt)
theorem KF.has_iff (hk : 1 ≤ k ∧ k ≤ 4) (n1 : 1 ≤ n) {x y : M4} (hx : dtM x = 1) (hy : dtM y = 1) : kco k n x = kco k n y ↔ hasM k n (mulM x (bckM y)) = true := by
  rw [same_has hk n1 hF.cos hx hy, hasM_md]
theorem KF.per_full (hk : 1 ≤ k ∧ k ≤ 4) (n1 : 1 ≤ n) : ∃ p, p < mO (gO k n N) N ∧ ∀ w : Nat, Go.Proofs.Ytilfkppapimocaa.itr (tO (gO k n N) (fO k n N) N) w p = p → n.toNat ∣ w := by
  have fin : ∀ w : Nat, n ∣ (w : Int) → n.toNat ∣ w := fun w ⟨q, hq⟩ => by
    refine ⟨q.toNat, ?_⟩
    have h0 : 0 ≤ q := by
      refine Decidable.byContradiction fun h => ?_
      have : n * q ≤ 1 * q := by
        have := Int.mul_le_mul_of_nonpos_right (show 1 ≤ n by omega) (show q ≤ 0 by omega)
        exact this
      omega
    have : ((n.toNat * q.toNat : Nat) : Int) = n * q := by rw [Int.natCast_mul, show ((n.toNat : Nat) : Int) = n by omega, show ((q.toNat : Nat) : Int) = q by omega]
    omega
  by_cases h3 : 3 ≤ k
  · have h1 : dtM (1, 0, 0, 1) = 1 := rfl
    refine ⟨_, hF.pt_lt h1, fun w hw => fin w ?_⟩
    rw [hF.itr h1] at hw
    have hd : dtM (tw w (1, 0, 0, 1)) = 1 := by rw [tw_dt]; rfl
    rcases hF.pt_eq h1 hd hw.symm with h | h
    · rw [hF.has_iff hk n1 hd h1] at h
      rcases (show k = 3 ∨ k = 4 by omega) with rfl | rfl <;> simp [hasM, hasV, mulM, bckM, tw] at h
      · exact Int.dvd_of_tmod_eq_zero h
      · exact Int.dvd_of_tmod_eq_zero h
    · rw [hF.has_iff hk n1 hd (by rw [dtM_S, dtM_S]; exact h1)] at h
      rcases (show k = 3 ∨ k = 4 by omega) with rfl | rfl <;> simp [hasM, hasV, mulM, bckM, tw, mS] at h
      · exact Int.dvd_of_tmod_eq_zero h.2
      · exact Int.dvd_of_tmod_eq_zero h
  · have h1 : dtM (0, -1, 1, 0) = 1 := rfl
    refine ⟨_, hF.pt_lt h1, fun w hw => fin w ?_⟩
    rw [hF.itr h1] at hw
    have hd : dtM (tw w (0, -1, 1, 0)) = 1 := by rw [tw_dt]; rfl
    rcases hF.pt_eq h1 hd hw.symm with h | h
    · rw [hF.has_iff hk n1 hd h1] at h
      rcases (show k = 1 ∨ k = 2 by omega) with rfl | rfl <;> simp [hasM, hasV, mulM, bckM, tw] at h
      · exact Int.dvd_of_tmod_eq_zero h
      · exact Int.dvd_of_tmod_eq_zero h
    · rw [hF.has_iff hk n1 hd (by rw [dtM_S, dtM_S]; exact h1)] at h
      rcases (show k = 1 ∨ k = 2 by omega) with rfl | rfl <;> simp [hasM, hasV, mulM, bckM, tw, mS] at h
      · exact Int.dvd_of_tmod_eq_zero h
      · exact Int.dvd_of_tmod_eq_zero h.1
end
/-- A point's cycle is in the list of cycles. -/
theorem cy_rep {f : Nat → Nat} {n j : Nat} (hp : Prm f n) (hj : j < n) : ∃ q, q ∈ cyP f n n ∧ q < n ∧ onC f q j := by
  have hz : Inv2 f (fun i => i) n := inv2_id hp
  have hI := cst_inv hp hz n (Nat.le_refl n)
  have h0 := hI.all j hj
  rcases hI.rng j with h | ⟨_, h⟩
  · omega
  · obtain ⟨q, hq⟩ : ∃ q : Nat, (cst (uB f (fun i => i) n) n).1 j = (q : Int) := ⟨_, (Int.toNat_of_nonneg h0).symm⟩
    have hql : q < (cst (uB f (fun i => i) n) n).2.length := by omega
    have hu := (hI.iff j hj q hql).2 hq
    have hb := hI.bd _ (List.getElem_mem hql)
    refine ⟨_, List.getElem_mem hql, hb, ?_⟩
    rcases (uB_iff hp hz hb).1 hu with h | h
    · exact h
    · exact h
theorem cy_per {f : Nat → Nat} {n c : Nat} (hp : Prm f n) (h : c ∈ cyN f n) : ∃ q, q < n ∧ IsPer f q c := by
  obtain ⟨q, hq, rfl⟩ := List.mem_map.1 h
  have hb := (cst_inv hp (inv2_id hp) n (Nat.le_refl n)).bd q hq
  exact ⟨q, hb, (perO_spec hp hb).1⟩
section
variable {k n : Int} {N : Nat} (hF : KF k n N)
include hF
/-- The lengths of the cycles of T: all divide the level, one is the level. -/
theorem KF.cyc (hk : 1 ≤ k ∧ k ≤ 4) (n1 : 1 ≤ n) : (∀ c ∈ cyN (tO (gO k n N) (fO k n N) N) (mO (gO k n N) N), c ∣ n.toNat ∧ 0 < c) ∧ n.toNat ∈ cyN (tO (gO k n N) (fO k n N) N) (mO (gO k n N) N) := by
  have hp := hF.pact.pt
  refine ⟨fun c hc => ?_, ?_⟩
  · obtain ⟨q, hq, h⟩ := cy_per hp hc
    exact ⟨hF.per_dvd hk n1 hq h, h.pos⟩
  · obtain ⟨p, hpm, hw⟩ := hF.per_full hk n1
    obtain ⟨q, hq, hqm, j, hj⟩ := cy_rep hp hpm
    have hs := (perO_spec hp hqm).1
    have h1 : n.toNat ∣ perO (tO (gO k n N) (fO k n N) N) (mO (gO k n N) N) q := hw _ (by
      rw [← hj, ← itr_add, Nat.add_comm, itr_add, hs.back])
    have h2 := hF.per_dvd hk n1 hqm hs
    have e := Nat.dvd_antisymm h1 h2
    rw [e]
    exact List.mem_map.2 ⟨q, hq, rfl⟩
end
/-- The least common multiple, number by number. -/
def lvl (L : List Nat) : Nat → Nat
  | 0 => 1
  | i + 1 => lvl L i * (L.getD i 0 / Nat.gcd (lvl L i) (L.getD i 0))
theorem lvl_lcm (L : List Nat) (i : Nat) : lvl L (i + 1) = Nat.lcm (lvl L i) (L.getD i 0) := by
  show lvl L i * (L.getD i 0 / Nat.gcd (lvl L i) (L.getD i 0)) = lvl L i * L.getD i 0 / Nat.gcd (lvl L i) (L.getD i 0)
  rw [Nat.mul_div_assoc _ (Nat.gcd_dvd_right _ _)]
theorem lvl_dvd {L : List Nat} {n : Nat} (h : ∀ c ∈ L, c ∣ n ∧ 0 < c) : ∀ i, i ≤ L.length → lvl L i ∣ n ∧ ∀ j, j < i → L.getD j 0 ∣ lvl L i
  | 0, _ => ⟨Nat.one_dvd n, fun j hj => by omega⟩
  | i + 1, hi => by
    obtain ⟨h1, h2⟩ := lvl_dvd h i (by omega)
    have hm : L.getD i 0 ∈ L := by
      rw [List.getD_eq_getElem?_getD, List.getElem?_eq_getElem (show i < L.length by omega)]; exact List.getElem_mem _
    rw [lvl_lcm]
    refine ⟨Nat.lcm_dvd h1 (h _ hm).1, fun j hj => ?_⟩
    by_cases e : j = i
    · subst e; exact Nat.dvd_lcm_right _ _
    · exact Nat.dvd_trans (h2 j (by omega)) (Nat.dvd_lcm_left _ _)
theorem lvl_end {L : List Nat} {n : Nat} (h : ∀ c ∈ L, c ∣ n ∧ 0 < c) (hn : n ∈ L) : lvl L L.length = n := by
  obtain ⟨h1, h2⟩ := lvl_dvd h L.length (Nat.le_refl _)
  obtain ⟨j, hj, e⟩ := List.mem_iff_getElem.1 hn
  have h3 := h2 j hj
  rw [List.getD_eq_getElem?_getD, List.getElem?_eq_getElem hj] at h3
  exact Nat.dvd_antisymm h1 (by rw [← e]; exact h3)
/-- The search over the matrices modulo n, with the points beside. -/
theorem getD_mapP {α β : Type} (f : α → β) {L : List α} {i : Nat} (d : β) (d' : α) (hi : i < L.length) : (L.map f).getD i d = f (L.getD i d') := by
  simp [List.getD_eq_getElem?_getD, hi]
theorem cpAdd_vl {co : M4 → K4} {P : M4 → Nat} (L : List M4) (x : M4) : cpAdd (L.map co, L.map P) (co x) (P x) = ((vl co L x).map co, (vl co L x).map P) := by
  unfold cpAdd vl
  by_cases h : (L.map co).contains (co x) = true
  · rw [if_pos h, if_pos h]
  · rw [if_neg h, if_neg h]; simp
theorem cpS_kc3 {n : Int} (n1 : 1 ≤ n) (x : M4) : cpS n (kc3 n x) = kc3 n (mS x) := by
  obtain ⟨a, b, c, d⟩ := x
  have e : ∀ z : Int, (n - z % n) % n = -z % n := fun z => mod_iff.2 (by
    obtain ⟨q, hq⟩ := md_dvd n z
    exact ⟨1 - q, by grind⟩)
  show (b % n, (n - a % n) % n, d % n, (n - c % n) % n) = (b % n, -a % n, d % n, -c % n)
  rw [e a, e c]
theorem cpT_kc3 (n : Int) (x : M4) : cpT n (kc3 n x) = kc3 n (mT x) := by
  obtain ⟨a, b, c, d⟩ := x
  simp [cpT, kc3, mT]
section
variable {k n : Int} {N R : Nat} (hF : KF k n N) (hk : 1 ≤ k ∧ k ≤ 4) (n1 : 1 ≤ n) (hR : SFin (kc3 n) R)
include hF hk n1 hR
omit hk in
theorem KF.cp_run : ∀ i, i ≤ R → cpst (sO (gO k n N) N) (tO (gO k n N) (fO k n N) N) n i = ((srun (kc3 n) i).L.map (kc3 n), (srun (kc3 n) i).L.map (ptO k n N))
  | 0, _ => by
    have h0 : ptO k n N (1, 0, 0, 1) = 0 := by
      have hp : 0 < N := hF.pact.pos
      have h1 := hF.fin.pl_L hp
      rw [hF.fin.ri.first] at h1
      unfold ptO
      rw [h1]
      exact hF.pact.quo.zero hp
    show ([(1 % n, 0, 0, 1 % n)], [0]) = ([kc3 n (1, 0, 0, 1)], [ptO k n N (1, 0, 0, 1)])
    rw [h0]
    show _ = ([(1 % n, 0 % n, 0 % n, 1 % n)], [0])
    rw [Int.zero_emod]
  | i + 1, hi => by
    have ih := KF.cp_run i (by omega)
    have hlt := hR.lt i (by omega)
    have hI := RI.all hR.lt i (by omega)
    obtain ⟨e1, _⟩ := srun_one i hI.k
    have hx : dtM ((srun (kc3 n) i).L.getD i (0, 0, 0, 0)) = 1 := hI.d _ (getD_inM hlt)
    rw [cpst, ih]
    rw [getD_mapP (kc3 n) _ (0, 0, 0, 0) hlt, getD_mapP (ptO k n N) _ (0, 0, 0, 0) hlt]
    generalize (srun (kc3 n) i).L.getD i (0, 0, 0, 0) = x at *
    rw [hF.pt_S hx, hF.pt_T hx, cpS_kc3 n1, cpT_kc3, cpAdd_vl, cpAdd_vl, e1]
theorem KF.cp_ok {i : Nat} (hi : i < R) : cpOk (sO (gO k n N) N) (tO (gO k n N) (fO k n N) N) n (mO (gO k n N) N) i := by
  have ih := KF.cp_run hF n1 hR i (by omega)
  have ih2 := KF.cp_run hF n1 hR (i + 1) (by omega)
  have hlt := hR.lt i (by omega)
  have hI := RI.all hR.lt i (by omega)
  have hI2 := RI.all hR.lt (i + 1) (by omega)
  obtain ⟨e1, _⟩ := srun_one i hI.k
  have hx : dtM ((srun (kc3 n) i).L.getD i (0, 0, 0, 0)) = 1 := hI.d _ (getD_inM hlt)
  have find : ∀ (L : List M4) (x : M4), (∀ y ∈ L, dtM y = 1) → dtM x = 1 → kc3 n x ∈ L.map (kc3 n) → (L.map (ptO k n N)).getD ((L.map (kc3 n)).idxOf (kc3 n x)) 0 = ptO k n N x := fun L x hL hx hm => by
    have hl := List.idxOf_lt_length_iff.2 hm
    have hl' : (L.map (kc3 n)).idxOf (kc3 n x) < L.length := by simpa using hl
    rw [getD_mapP (ptO k n N) _ (0, 0, 0, 0) hl']
    refine hF.mod_same hk n1 (hL _ (getD_inM hl')) hx ?_
    have h9 : (L.map (kc3 n)).getD ((L.map (kc3 n)).idxOf (kc3 n x)) (0, 0, 0, 0) = kc3 n x := by
      rw [List.getD_eq_getElem?_getD, List.getElem?_eq_getElem hl]
      exact List.getElem_idxOf hl
    rw [getD_mapP (kc3 n) _ (0, 0, 0, 0) hl'] at h9
    exact h9
  have hb : ∀ z : Int, 0 ≤ z % n ∧ z % n < n := fun z => ⟨Int.emod_nonneg _ (by omega), Int.emod_lt_of_pos _ (by omega)⟩
  have hdS : dtM (mS ((srun (kc3 n) i).L.getD i (0, 0, 0, 0))) = 1 := by rw [dtM_S]; exact hx
  have hdT : dtM (mT ((srun (kc3 n) i).L.getD i (0, 0, 0, 0))) = 1 := by rw [dtM_T]; exact hx
  unfold cpOk
  rw [ih2, ih]
  simp only
  rw [getD_mapP (kc3 n) _ (0, 0, 0, 0) hlt, getD_mapP (ptO k n N) _ (0, 0, 0, 0) hlt]
  have hidx : ((srun (kc3 n) i).L.map (kc3 n)).idxOf (kc3 n ((srun (kc3 n) i).L.getD i (0, 0, 0, 0))) = i := by
    have hl : i < ((srun (kc3 n) i).L.map (kc3 n)).length := by simpa using hlt
    have e9 : kc3 n ((srun (kc3 n) i).L.getD i (0, 0, 0, 0)) = ((srun (kc3 n) i).L.map (kc3 n))[i] := by
      rw [← getD_mapP (kc3 n) (0, 0, 0, 0) (0, 0, 0, 0) hlt, List.getD_eq_getElem?_getD, List.getElem?_eq_getElem hl]; rfl
    rw [e9]
    exact nodup_idx hI.nd hl
  refine ⟨by simpa using hlt, by simp, hidx, hF.pt_lt hx, ?_, ?_, ?_⟩
  · intro e he
    simp only [kc3, List.mem_cons, List.not_mem_nil, or_false] at he
    rcases he with rfl | rfl | rfl | rfl <;> exact hb _
  · rw [hF.pt_S hx, cpS_kc3 n1, cpAdd_vl]
    exact find _ _ (vl_dt hI.d hdS) hdS (vl_mem _ _)
  · rw [hF.pt_T hx, cpT_kc3]
    refine find _ _ hI2.d hdT ?_
    rw [e1]
    exact vl_mem _ _
end
end Go.Proofs.Ytilfkppapimocaa
namespace Go.Proofs.Ytilfkppapimocaa
open Go.RowKit
set_option linter.unusedVariables false
set_option linter.unusedSimpArgs false

theorem run_fieldT (A A' : Option Addr) (n n' k k' : Nat) (W : World) : (Instr.field 47 (.agg #[.slice A n k, .slice A' n' k']) 1).run Try.prog W = .ok (.slice A' n' k') W := by
  simp [Instr.field, go_sem, asAgg]
theorem rdn_iz {w : World} {B c : Nat} {A : Option Addr} {L : List Nat} {F : Nat → Nat} (h : RdZ w B A c (iz L)) (h0 : 0 < L.length) (hF : ∀ i, i < L.length → L.getD i 0 = F i) : ∃ b o, A = some ⟨b, o, none⟩ ∧ RdN w B b o L.length F := by
  obtain ⟨b, o, e, hb, hc⟩ := h.2.2.1 (by rw [iz_len]; exact h0)
  refine ⟨b, o, e, hb, fun i hi => ?_⟩
  have h9 := hc i (by rw [iz_len]; exact hi)
  rw [h9, ← hF i hi]
  simp [iz, List.getD_eq_getElem?_getD, hi]
theorem projN {S T : List Int} {cS cT : Nat} {AS AT : Option Addr} (w : World) (ha : Act2 S T) (hS : RdZ w w.heap.size AS cS S) (hT : RdZ w w.heap.size AT cT T) :
    Calls Try.prog 57 #[.agg #[.slice AS S.length cS, .slice AT T.length cT]] w fun e w' => ∃ bS oS c bT oT c', e = .returned (.agg #[.slice (some ⟨bS, oS, none⟩) (mO (fnz S) S.length) c, .slice (some ⟨bT, oT, none⟩) (mO (fnz S) S.length) c']) ∧
      RdN w' w'.heap.size bS oS (mO (fnz S) S.length) (sO (fnz S) S.length) ∧ RdN w' w'.heap.size bT oT (mO (fnz S) S.length) (tO (fnz S) (fnz T) S.length) ∧ Below w.heap.size w w' := by
  have hP := pact_of ha
  obtain ⟨bS, oS, bT, oT, rfl, rfl, hI⟩ := AI.mk' ha hS hT (Nat.le_refl _)
  rw [ha.len]
  refine (pproj_raw w hI.s hI.t ha.ps ha.pt ha.le).mono ?_
  rintro e w' ⟨A, c, A', c', rfl, h1, h2, hb⟩
  have hm := hP.mpos
  have l1 : (pS (fnz S) S.length).length = mO (fnz S) S.length := by unfold pS; rw [List.length_map]; rfl
  have l2 : (pT (fnz S) (fnz T) S.length).length = mO (fnz S) S.length := by unfold pT; rw [List.length_map]; rfl
  obtain ⟨b1, o1, rfl, r1⟩ := rdn_iz (F := sO (fnz S) S.length) h1 (by omega) fun i hi => by
    unfold pS
    rw [getD_mapP _ 0 0 (by rw [l1] at hi; exact hi)]
    rfl
  obtain ⟨b2, o2, rfl, r2⟩ := rdn_iz (F := tO (fnz S) (fnz T) S.length) h2 (by omega) fun i hi => by
    unfold pT
    rw [getD_mapP _ 0 0 (by rw [l2] at hi; exact hi)]
    rfl
  rw [l1] at r1 ⊢
  rw [l2] at r2 ⊢
  exact ⟨b1, o1, c, b2, o2, c', rfl, r1, r2, hb⟩
theorem cycN {cT b o m : Nat} {f : Nat → Nat} (w : World) (h : RdN w w.heap.size b o m f) (hp : Prm f m) (hm : m ≤ 1152) :
    Calls Try.prog 56 #[.slice (some ⟨b, o, none⟩) m cT] w fun e w' => ∃ A c, e = .returned (.slice A (cyN f m).length c) ∧ RdZ w' w'.heap.size A c (iz (cyN f m)) ∧ Below w.heap.size w w' := by
  refine (cycles_any w h hp hm).mono ?_
  rintro e w' ⟨A, c, rfl, h1, hb⟩
  generalize cyN f m = L at *
  rw [← iz_len] at h1
  obtain ⟨A1, c1, e1, r1⟩ := own_rdz h1
  rw [iz_len] at e1
  cases e1
  exact ⟨A, c, rfl, r1, hb⟩
theorem iz_at {L : List Nat} {i : Nat} (hi : i < L.length) : (iz L)[i]'(by rw [iz_len]; exact hi) = ((L.getD i 0 : Nat) : Int) := by
  simp [iz, List.getD_eq_getElem?_getD, hi]
/-- One step of the least common multiple. -/
theorem lvl_step {L : List Nat} {n i : Nat} (h : ∀ c ∈ L, c ∣ n ∧ 0 < c) (n1 : 1 ≤ n) (hi : i < L.length) : ∃ lv v gc fa qq nx : Nat, lvl L i = lv ∧ L.getD i 0 = v ∧ lvl L (i + 1) = nx ∧ Int.gcd (lv : Int) (v : Int) = gc ∧ 0 < gc ∧ 0 < fa ∧ (v : Int).tdiv (gc : Int) = (fa : Int) ∧ (1000000000000000000 : Int).tdiv (fa : Int) = (qq : Int) ∧ (n ≤ 120 → lv ≤ qq) ∧ (lv : Int) * (fa : Int) = (nx : Int) ∧ lv ≤ n ∧ v ≤ n ∧ nx ≤ n ∧ fa ≤ n ∧ qq ≤ 1000000000000000000 := by
  obtain ⟨h1, _⟩ := lvl_dvd h i (by omega)
  obtain ⟨h2, _⟩ := lvl_dvd h (i + 1) (by omega)
  have hm : L.getD i 0 ∈ L := by
    rw [List.getD_eq_getElem?_getD, List.getElem?_eq_getElem hi]; exact List.getElem_mem _
  have hv := (h _ hm).2
  have b1 := Nat.le_of_dvd (by omega) h1
  have b2 := Nat.le_of_dvd (by omega) h2
  have b3 := Nat.le_of_dvd (by omega) (h _ hm).1
  have hg : 0 < Nat.gcd (lvl L i) (L.getD i 0) := Nat.gcd_pos_of_pos_right _ hv
  have hd := Nat.gcd_dvd_right (lvl L i) (L.getD i 0)
  have hf : 0 < L.getD i 0 / Nat.gcd (lvl L i) (L.getD i 0) := Nat.div_pos (Nat.le_of_dvd hv hd) hg
  have hfl : L.getD i 0 / Nat.gcd (lvl L i) (L.getD i 0) ≤ L.getD i 0 := Nat.div_le_self _ _
  refine ⟨_, _, Nat.gcd (lvl L i) (L.getD i 0), L.getD i 0 / Nat.gcd (lvl L i) (L.getD i 0), 1000000000000000000 / (L.getD i 0 / Nat.gcd (lvl L i) (L.getD i 0)), _, rfl, rfl, rfl, ?_, hg, hf, ?_, ?_, fun hn => ?_, ?_, b1, b3, b2, by omega, Nat.div_le_self _ _⟩
  · rw [Int.gcd_natCast_natCast]
  · rw [Int.tdiv_eq_ediv_of_nonneg (by omega), Int.natCast_ediv]
  · rw [Int.tdiv_eq_ediv_of_nonneg (by omega)]; rfl
  · generalize L.getD i 0 / Nat.gcd (lvl L i) (L.getD i 0) = fa at *
    have : 1000000000000000000 / 120 ≤ 1000000000000000000 / fa := Nat.div_le_div_left (by omega) hf
    omega
  · rw [← Int.natCast_mul]; rfl
set_option maxHeartbeats 3200000 in
set_option maxRecDepth 1000000 in
theorem level_any {S T : List Int} {n cS cT : Nat} {AS AT : Option Addr} (w : World) (ha : Act2 S T) (n1 : 1 ≤ n) (n2 : n ≤ 120) (hcy : ∀ c ∈ cyN (tO (fnz S) (fnz T) S.length) (mO (fnz S) S.length), c ∣ n ∧ 0 < c) (hn : n ∈ cyN (tO (fnz S) (fnz T) S.length) (mO (fnz S) S.length))
    (hS : RdZ w w.heap.size AS cS S) (hT : RdZ w w.heap.size AT cT T) :
    Calls Try.prog 30 #[.agg #[.slice AS S.length cS, .slice AT T.length cT]] w fun e w' => e = .returned (.tuple #[.int .i64 (n : Nat), .int .i64 0]) ∧ Below w.heap.size w w' := by
  have T0 : Hid ((w.alloc (.cells #[.slice AS S.length cS, .slice AT T.length cT] 47)).heap[w.heap.size]? = some (.cells #[.slice AS S.length cS, .slice AT T.length cT] 47 (0, 0))) := heap_alloc_new w _
  have HB0 : Hid (Below w.heap.size w (w.alloc (.cells #[.slice AS S.length cS, .slice AT T.length cT] 47))) := below1 w _
  have HCk : Hid (∀ W, Below w.heap.size w W → Calls Try.prog 22 #[.agg #[.slice AS S.length cS, .slice AT T.length cT]] W fun e w' => e = .returned (.int .i64 0) ∧ Below W.heap.size W w') := fun W hb => by
    have := pcheck_any W (hS.below hb) (hT.below hb) hb.size
    rwa [chkA_ok ha] at this
  have HPr := Lib.hid (fun W (hb : Below w.heap.size w W) => projN W ha ((hS.below hb).mono hb.size) ((hT.below hb).mono hb.size))
  have hP := pact_of ha
  have hpt := hP.pt
  have hml : mO (fnz S) S.length ≤ 1152 := Nat.le_trans hP.mle ha.le
  have HCy := Lib.hid (fun (W : World) (b o c : Nat) (h : RdN W W.heap.size b o (mO (fnz S) S.length) (tO (fnz S) (fnz T) S.length)) => cycN (cT := c) W h hpt hml)
  have HSt := Lib.hid (fun i (hi : i < (cyN (tO (fnz S) (fnz T) S.length) (mO (fnz S) S.length)).length) => lvl_step hcy n1 hi)
  have HEn := Lib.hid (lvl_end hcy hn)
  have hLl : (cyN (tO (fnz S) (fnz T) S.length) (mO (fnz S) S.length)).length ≤ 1152 := Nat.le_trans hP.bd.2.2 hml
  have hfl := @run_fieldT
  clear hS hT hP hpt hcy hn
  generalize cyN (tO (fnz S) (fnz T) S.length) (mO (fnz S) S.length) = L at *
  generalize tO (fnz S) (fnz T) S.length = tF at *
  generalize sO (fnz S) S.length = sF at *
  generalize mO (fnz S) S.length = m at *
  go_enter Try.func30, Try.ntmps30
  go_wp2_with (first
    | (go_at_call 22; ((with_reducible refine (HCk.out _ HB0.out).mono ?_); rintro e w1 ⟨rfl, hb⟩; have HB1 := Lib.hid (bel0 HB0.out hb); have T1 := Lib.hid (block_below T0.out hb); obtain ⟨⟨t1, t2⟩, _⟩ := two_of_block T1.out; clear hb))
    | (go_at_call 57; ((with_reducible refine (HPr.out _ HB1.out).mono ?_); rintro e w2 ⟨b1, o1, c1, b2, o2, c2, rfl, h1, h2, hb⟩; have HB2 := Lib.hid (bel0 HB1.out hb); have H2 := Lib.hid h2; clear hb h1 h2))
    | (go_at_call 56; ((with_reducible refine (HCy.out _ _ _ _ H2.out).mono ?_); rintro e w3 ⟨A3, c3, rfl, h3, hb⟩; have HB3 := Lib.hid (bel0 HB2.out hb); have H3 := Lib.hid h3; clear hb h3))
    | fail)
  go_loopw [5, 7, 8, 19] (fun V _ _ I wr => ∃ (k q : Nat), I = .int .i64 (k : Nat) ∧ k ≤ L.length ∧ wr = w3.drewN q ∧ V = .int .i64 (lvl L k : Nat)) (fun _ _ _ I _ => L.length - (intOf I).toNat)
  case atStart => exact ⟨0, 0, rfl, Nat.zero_le _, rfl, rfl⟩
  case round =>
    obtain ⟨k, q, rfl, hk, rfl, rfl⟩ := hrel
    by_cases hlt : k < L.length
    · obtain ⟨lv, v, gc, fa, qq, nx, e1, e2, e3, e4, g0, f0, q1, q2, q3, q4, c1', c2', c3', c4', c5'⟩ := HSt.out k hlt
      have hq3 := q3 n2
      rw [e1]
      obtain ⟨b3, o3, e9, hb3, x0⟩ := H3.out.at_ (k := k) (by rw [iz_len]; exact hlt)
      rw [iz_at hlt, e2] at x0
      have y0 : (w3.drewN q).cell? ⟨b3, o3 + k, none⟩ = some (.int .i64 (v : Nat)) := x0
      have HG : Hid (∀ (W : World), Calls Try.prog 58 #[.int .i64 (lv : Nat), .int .i64 (v : Nat)] W fun e w' => e = .returned (.int .i64 (gc : Nat)) ∧ ∃ n, w' = W.drewN n) := fun W => by
        have := gcd_any (lv : Int) (v : Int) W (by unfold Mid; omega) (by unfold Mid; omega)
        rwa [e4] at this
      have HNx := Lib.hid e3
      have hki : (k : Int) < (L.length : Int) := by omega
      have hgz : ¬ (gc : Int) = 0 := by omega
      have hfz : ¬ (fa : Int) = 0 := by omega
      have hfl2 : (fa : Int) ≤ 120 := by omega
      have hqq : (qq : Int) ≤ 1000000000000000000 := by omega
      have hfz2 : ((fa : Int) == 0) = false := by simp; omega
      have hgz2 : ((gc : Int) == 0) = false := by simp; omega
      have hfz3 : ¬ (v : Int).tdiv (gc : Int) = 0 := by rw [q1]; omega
      have hle : (lv : Int) ≤ (qq : Int) := by omega
      have hnx : (nx : Int) ≤ 120 := by omega
      have hn0 : 0 ≤ (nx : Int) := by omega
      have hvl : (v : Int) ≤ 120 := by omega
      have hlvl : (lv : Int) ≤ 120 := by omega
      subst e9
      clear e1 e2 e3 e4 x0 q3 hq3 c1' c2' c3' c4' c5'
      go_wp2_with (first
        | (go_at_call 58; ((with_reducible refine (HG.out _).mono ?_); rintro e w' ⟨rfl, n5, rfl⟩))
        | fail)
      go_roundw
      case rel => exact ⟨k + 1, _, by go_num, by omega, rfl, by rw [HNx.out]⟩
      case measure => simp [intOf]; omega
    · obtain rfl : k = L.length := by omega
      have hkk : ¬ (L.length : Int) < (L.length : Int) := by omega
      rw [HEn.out]
      go_wp2
      go_ret2
      exact ⟨rfl, below_drewN HB3.out _⟩
end Go.Proofs.Ytilfkppapimocaa
namespace Go.Proofs.Ytilfkppapimocaa
open Go.RowKit
set_option linter.unusedVariables false
set_option linter.unusedSimpArgs false

/-- The lists of the search are no longer than its last. -/
theorem sl_leL {co : M4 → K4} {N : Nat} (hF : SFin co N) : ∀ d i, i + d = N → (srun co i).L.length ≤ N
  | 0, i, h => by rw [show i = N by omega, hF.len]; exact Nat.le_refl _
  | d + 1, i, h => by
    obtain ⟨e1, _⟩ := srun_one i (RI.all hF.lt i (by omega)).k
    have h1 := sl_leL hF d (i + 1) (by omega)
    rw [e1] at h1
    obtain ⟨E, hE⟩ := vl_ext (co := co) (srun co i).L (mS ((srun co i).L.getD i (0, 0, 0, 0)))
    obtain ⟨E', hE'⟩ := vl_ext (co := co) (vl co (srun co i).L (mS ((srun co i).L.getD i (0, 0, 0, 0)))) (mT ((srun co i).L.getD i (0, 0, 0, 0)))
    rw [hE', hE] at h1
    simp at h1
    omega
/-- containsPrincipal, of a group's action. -/
theorem principal_ok {k n : Int} {N : Nat} {bS oS bT oT cS cT : Nat} (w : World) (hF : KF k n N) (hk : 1 ≤ k ∧ k ≤ 4) (n1 : 1 ≤ n) (n2 : n ≤ 24) (hN : N ≤ 1152)
    (hs : RdN w w.heap.size bS oS (mO (gO k n N) N) (sO (gO k n N) N)) (ht : RdN w w.heap.size bT oT (mO (gO k n N) N) (tO (gO k n N) (fO k n N) N)) :
    Calls Try.prog 59 #[.agg #[.slice (some ⟨bS, oS, none⟩) (mO (gO k n N) N) cS, .slice (some ⟨bT, oT, none⟩) (mO (gO k n N) N) cT], .int .i64 n] w fun e w' => e = .returned (.bool true) ∧ Below w.heap.size w w' := by
  have hP := hF.pact
  obtain ⟨m, hm⟩ : ∃ m : Nat, n = (m : Int) := ⟨n.toNat, by omega⟩
  have hR : SFin (kc3 n) (V4 m).length := by rw [hm]; exact kfin3 (by omega)
  have hb : (V4 m).length ≤ 331776 := by
    unfold V4
    rw [List.length_map]
    refine Nat.le_trans (List.length_filter_le _ _) ?_
    rw [List.length_range]
    have h2 : m * m ≤ 24 * 24 := Nat.mul_le_mul (by omega) (by omega)
    have h3 : m * m * m ≤ 24 * 24 * 24 := Nat.mul_le_mul h2 (by omega)
    exact Nat.mul_le_mul h3 (show m ≤ 24 by omega)
  refine contains_gen w n1 n2 (Nat.le_trans hP.mle hN) hP.ps hP.pt (fun i hi => hF.cp_ok hk n1 hR hi) ?_ (fun i hi => ?_) hs ht
  · rw [hF.cp_run n1 hR _ (Nat.le_refl _), List.length_map, hR.len]
  · rw [hF.cp_run n1 hR i (by omega), List.length_map]
    have := sl_leL hR ((V4 m).length - i) i (by omega)
    omega
theorem kn_bd {k n : Int} (h : ckxI k n = 0) : (1 ≤ k ∧ k ≤ 4) ∧ 1 ≤ n ∧ n ≤ 120 := by
  obtain ⟨_, _, hg⟩ := ckx_kf h
  rcases gck_cases k n with ⟨_, h2⟩ | ⟨_, _, h2⟩ | ⟨h1, h2, _⟩
  · rw [h2] at hg; exact absurd hg (by decide)
  · rw [h2] at hg; exact absurd hg (by decide)
  · exact ⟨h1, h2⟩
theorem level_ok {k n : Int} (h : ckxI k n = 0) {cS cT : Nat} {AS AT : Option Addr} (w : World) (hS : RdZ w w.heap.size AS cS (olS k n)) (hT : RdZ w w.heap.size AT cT (olT k n)) :
    Calls Try.prog 30 #[.agg #[.slice AS (olS k n).length cS, .slice AT (olT k n).length cT]] w fun e w' => e = .returned (.tuple #[.int .i64 n, .int .i64 0]) ∧ Below w.heap.size w w' := by
  obtain ⟨hF, hN, _⟩ := ckx_kf h
  obtain ⟨hk, n1, n2⟩ := kn_bd h
  obtain ⟨hc, hm⟩ := hF.cyc hk n1
  have e : (olS k n).length = idxN k n.toNat := ol_len.1
  have hL := level_any (n := n.toNat) w (ol_act h) (by omega) (by omega) (by rw [e]; exact hc) (by rw [e]; exact hm) hS hT
  rw [show ((n.toNat : Nat) : Int) = n by omega] at hL
  exact hL
set_option maxHeartbeats 3200000 in
set_option maxRecDepth 1000000 in
theorem congr_gen {S T : List Int} {n z : Int} {b : Bool} {cS cT : Nat} {AS AT : Option Addr} (w : World) (n2 : n ≤ 120) (hz : (24 < n ∧ b = false ∧ z = 7) ∨ (n ≤ 24 ∧ b = true ∧ z = 0)) (ha : Act2 S T)
    (HLv0 : ∀ W AS cS AT cT, RdZ W W.heap.size AS cS S → RdZ W W.heap.size AT cT T → Calls Try.prog 30 #[.agg #[.slice AS S.length cS, .slice AT T.length cT]] W fun e w' => e = .returned (.tuple #[.int .i64 n, .int .i64 0]) ∧ Below W.heap.size W w')
    (HCn0 : n ≤ 24 → ∀ W bS oS bT oT cS cT, RdN W W.heap.size bS oS (mO (fnz S) S.length) (sO (fnz S) S.length) → RdN W W.heap.size bT oT (mO (fnz S) S.length) (tO (fnz S) (fnz T) S.length) → Calls Try.prog 59 #[.agg #[.slice (some ⟨bS, oS, none⟩) (mO (fnz S) S.length) cS, .slice (some ⟨bT, oT, none⟩) (mO (fnz S) S.length) cT], .int .i64 n] W fun e w' => e = .returned (.bool true) ∧ Below W.heap.size W w')
    (hS : RdZ w w.heap.size AS cS S) (hT : RdZ w w.heap.size AT cT T) :
    Calls Try.prog 31 #[.agg #[.slice AS S.length cS, .slice AT T.length cT]] w fun e w' => e = .returned (.tuple #[.bool b, .int .i64 z]) ∧ Below w.heap.size w w' := by
  have T0 : Hid ((w.alloc (.cells #[.slice AS S.length cS, .slice AT T.length cT] 47)).heap[w.heap.size]? = some (.cells #[.slice AS S.length cS, .slice AT T.length cT] 47 (0, 0))) := heap_alloc_new w _
  have HB0 : Hid (Below w.heap.size w (w.alloc (.cells #[.slice AS S.length cS, .slice AT T.length cT] 47))) := below1 w _
  have HLv := Lib.hid (fun W (hb : Below w.heap.size w W) => HLv0 W AS cS AT cT ((hS.below hb).mono hb.size) ((hT.below hb).mono hb.size))
  have HPr := Lib.hid (fun W (hb : Below w.heap.size w W) => projN W ha ((hS.below hb).mono hb.size) ((hT.below hb).mono hb.size))
  have HCn := Lib.hid HCn0
  clear hS hT HLv0 HCn0 ha
  generalize tO (fnz S) (fnz T) S.length = tF at *
  generalize sO (fnz S) S.length = sF at *
  generalize mO (fnz S) S.length = m at *
  rcases hz with ⟨h24, rfl, rfl⟩ | ⟨h24, rfl, rfl⟩
  · go_enter Try.func31, Try.ntmps31
    go_wp2_with (first
      | (go_at_call 30; ((with_reducible refine (HLv.out _ HB0.out).mono ?_); rintro e w1 ⟨rfl, hb⟩; have HB1 := Lib.hid (bel0 HB0.out hb); have T1 := Lib.hid (block_below T0.out hb); obtain ⟨⟨t1, t2⟩, _⟩ := two_of_block T1.out; clear hb))
      | fail)
    go_ret2
    exact ⟨rfl, HB1.out⟩
  · have h24' : ¬ 24 < n := by omega
    have HC := Lib.hid (HCn.out h24)
    go_enter Try.func31, Try.ntmps31
    go_wp2_with (first
      | (go_at_call 30; ((with_reducible refine (HLv.out _ HB0.out).mono ?_); rintro e w1 ⟨rfl, hb⟩; have HB1 := Lib.hid (bel0 HB0.out hb); have T1 := Lib.hid (block_below T0.out hb); obtain ⟨⟨t1, t2⟩, _⟩ := two_of_block T1.out; clear hb))
      | (go_at_call 57; ((with_reducible refine (HPr.out _ HB1.out).mono ?_); rintro e w2 ⟨b1, o1, c1, b2, o2, c2, rfl, h1, h2, hb⟩; have HB2 := Lib.hid (bel0 HB1.out hb); have H1 := Lib.hid h1; have H2 := Lib.hid h2; clear hb h1 h2))
      | (go_at_call 59; ((with_reducible refine (HC.out _ _ _ _ _ _ _ H1.out H2.out).mono ?_); rintro e w3 ⟨rfl, hb⟩; have HB3 := Lib.hid (bel0 HB2.out hb); clear hb))
      | fail)
    go_ret2
    exact ⟨rfl, HB3.out⟩
theorem congr_ok {k n : Int} (h : ckxI k n = 0) {cS cT : Nat} {AS AT : Option Addr} (w : World) (hS : RdZ w w.heap.size AS cS (olS k n)) (hT : RdZ w w.heap.size AT cT (olT k n)) :
    Calls Try.prog 31 #[.agg #[.slice AS (olS k n).length cS, .slice AT (olT k n).length cT]] w fun e w' => e = .returned (.tuple #[.bool (decide (n ≤ 24)), .int .i64 (if n ≤ 24 then 0 else 7)]) ∧ Below w.heap.size w w' := by
  obtain ⟨hF, hN, _⟩ := ckx_kf h
  obtain ⟨hk, n1, n2⟩ := kn_bd h
  have e : (olS k n).length = idxN k n.toNat := ol_len.1
  refine congr_gen w n2 ?_ (ol_act h) (fun W AS cS AT cT h1 h2 => level_ok h W h1 h2) (fun h24 W bS oS bT oT cS cT h1 h2 => ?_) hS hT
  · by_cases h24 : n ≤ 24
    · exact .inr ⟨h24, decide_eq_true h24, if_pos h24⟩
    · exact .inl ⟨by omega, decide_eq_false h24, if_neg h24⟩
  · rw [e] at h1 h2 ⊢
    exact principal_ok W hF hk n1 h24 hN h1 h2
set_option maxHeartbeats 3200000 in
set_option maxRecDepth 1000000 in
theorem llv_great {k n : Int} (w : World) (HG0 : ∀ W, Calls Try.prog 23 #[.agg #[.int .i64 k, .int .i64 n]] W fun e w' => e = .returned (.bool true) ∧ Below W.heap.size W w') :
    Calls Try.prog 10 #[.agg #[.int .i64 k, .int .i64 n]] w fun e w' => e = .returned (.bool true) ∧ Below w.heap.size w w' := by
  have HG := Lib.hid HG0
  have T0 : Hid ((w.alloc (.cells #[.int .i64 k, .int .i64 n] 24)).heap[w.heap.size]? = some (.cells #[.int .i64 k, .int .i64 n] 24 (0, 0))) := heap_alloc_new w _
  clear HG0
  go_enter Try.func10, Try.ntmps10
  go_wp2_with (first
    | (go_at_call 23; ((with_reducible refine (HG.out _).mono ?_); rintro e w1 ⟨rfl, hb⟩; have HB1 : Hid (Below w.heap.size w w1) := bel1 (Below.refl _ _) hb; have T1 := Lib.hid (block_below T0.out hb); clear hb))
    | (go_at_call 12; ((with_reducible refine (awake_any _).mono ?_); rintro e w2 ⟨rfl, hb⟩; have HB2 := Lib.hid (bel0 HB1.out hb); have T2 := Lib.hid (block_below T1.out hb); clear hb))
    | fail)
  go_ret
  exact ⟨rfl, HB2.out⟩
set_option maxHeartbeats 3200000 in
set_option maxRecDepth 1000000 in
theorem llv_err {k n z : Int} (w : World) (hz : z ≠ 0) (HG0 : ∀ W, Calls Try.prog 23 #[.agg #[.int .i64 k, .int .i64 n]] W fun e w' => e = .returned (.bool false) ∧ Below W.heap.size W w')
    (HO0 : ∀ W, Calls Try.prog 21 #[.agg #[.int .i64 k, .int .i64 n]] W fun e w' => e = .returned (.tuple #[.agg #[.slice none 0 0, .slice none 0 0], .int .i64 z]) ∧ Below W.heap.size W w') :
    Calls Try.prog 10 #[.agg #[.int .i64 k, .int .i64 n]] w fun e w' => e = .returned (.bool true) ∧ Below w.heap.size w w' := by
  have HG := Lib.hid HG0
  have HO := Lib.hid HO0
  have T0 : Hid ((w.alloc (.cells #[.int .i64 k, .int .i64 n] 24)).heap[w.heap.size]? = some (.cells #[.int .i64 k, .int .i64 n] 24 (0, 0))) := heap_alloc_new w _
  have hzb : (z == 0) = false := by simpa using hz
  clear HG0 HO0
  go_enter Try.func10, Try.ntmps10
  go_wp2_with (first
    | (go_at_call 23; ((with_reducible refine (HG.out _).mono ?_); rintro e w1 ⟨rfl, hb⟩; have HB1 : Hid (Below w.heap.size w w1) := bel1 (Below.refl _ _) hb; have T1 := Lib.hid (block_below T0.out hb); clear hb))
    | (go_at_call 12; ((with_reducible refine (awake_any _).mono ?_); rintro e w2 ⟨rfl, hb⟩; have HB2 := Lib.hid (bel0 HB1.out hb); have T2 := Lib.hid (block_below T1.out hb); obtain ⟨⟨t1, t2⟩, _⟩ := two_of_block T2.out; clear hb))
    | (go_at_call 21; ((with_reducible refine (HO.out _).mono ?_); rintro e w3 ⟨rfl, hb⟩; have HB3 := Lib.hid (bel0 HB2.out hb); clear t1 t2 hb))
    | fail)
  go_ret
  exact ⟨rfl, bel0 HB3.out (below1 _ _)⟩
set_option maxHeartbeats 3200000 in
set_option maxRecDepth 1000000 in
theorem llv_ok {k n : Int} {S T : List Int} (w : World) (HG0 : ∀ W, Calls Try.prog 23 #[.agg #[.int .i64 k, .int .i64 n]] W fun e w' => e = .returned (.bool false) ∧ Below W.heap.size W w')
    (HO0 : ∀ W, Calls Try.prog 21 #[.agg #[.int .i64 k, .int .i64 n]] W fun e w' => ∃ AS cS AT cT, e = .returned (.tuple #[.agg #[.slice AS S.length cS, .slice AT T.length cT], .int .i64 0]) ∧ RdZ w' w'.heap.size AS cS S ∧ RdZ w' w'.heap.size AT cT T ∧ Below W.heap.size W w')
    (HLv0 : ∀ W AS cS AT cT, RdZ W W.heap.size AS cS S → RdZ W W.heap.size AT cT T → Calls Try.prog 30 #[.agg #[.slice AS S.length cS, .slice AT T.length cT]] W fun e w' => e = .returned (.tuple #[.int .i64 n, .int .i64 0]) ∧ Below W.heap.size W w')
    (HC0 : ∀ W AS cS AT cT, RdZ W W.heap.size AS cS S → RdZ W W.heap.size AT cT T → Calls Try.prog 31 #[.agg #[.slice AS S.length cS, .slice AT T.length cT]] W fun e w' => e = .returned (.tuple #[.bool (decide (n ≤ 24)), .int .i64 (if n ≤ 24 then 0 else 7)]) ∧ Below W.heap.size W w') :
    Calls Try.prog 10 #[.agg #[.int .i64 k, .int .i64 n]] w fun e w' => e = .returned (.bool true) ∧ Below w.heap.size w w' := by
  have HG := Lib.hid HG0
  have HO := Lib.hid HO0
  have HLv := Lib.hid HLv0
  have T0 : Hid ((w.alloc (.cells #[.int .i64 k, .int .i64 n] 24)).heap[w.heap.size]? = some (.cells #[.int .i64 k, .int .i64 n] 24 (0, 0))) := heap_alloc_new w _
  obtain ⟨b, hb⟩ : ∃ b, b = decide (n ≤ 24) := ⟨_, rfl⟩
  obtain ⟨z, hz⟩ : ∃ z : Int, z = if n ≤ 24 then 0 else 7 := ⟨_, rfl⟩
  have hbz : (24 < n ∧ b = false ∧ z = 7) ∨ (n ≤ 24 ∧ b = true ∧ z = 0) := by
    rw [hb, hz]
    by_cases h24 : n ≤ 24
    · exact .inr ⟨h24, decide_eq_true h24, if_pos h24⟩
    · exact .inl ⟨by omega, decide_eq_false h24, if_neg h24⟩
  rw [← hb, ← hz] at HC0
  have HC := Lib.hid HC0
  clear HG0 HO0 HLv0 HC0 hb hz
  rcases hbz with ⟨h24, rfl, rfl⟩ | ⟨h24, rfl, rfl⟩
  · skip
    go_enter Try.func10, Try.ntmps10
    go_wp2_with (first
      | (go_at_call 23; ((with_reducible refine (HG.out _).mono ?_); rintro e w1 ⟨rfl, hb⟩; have HB1 : Hid (Below w.heap.size w w1) := bel1 (Below.refl _ _) hb; have T1 := Lib.hid (block_below T0.out hb); clear hb))
      | (go_at_call 12; ((with_reducible refine (awake_any _).mono ?_); rintro e w2 ⟨rfl, hb⟩; have HB2 := Lib.hid (bel0 HB1.out hb); have T2 := Lib.hid (block_below T1.out hb); obtain ⟨⟨t1, t2⟩, _⟩ := two_of_block T2.out; clear hb))
      | (go_at_call 21; ((with_reducible refine (HO.out _).mono ?_); rintro e w3 ⟨AS, cS, AT, cT, rfl, d1, d2, hb⟩; have HB3 : Hid (Below w.heap.size w (w3.alloc (.cells #[.slice AS S.length cS, .slice AT T.length cT] 47))) := bel0 (bel0 HB2.out hb) (below1 _ _); have T3 := Lib.hid (block_alloc (block_below T2.out hb) (.cells #[.slice AS S.length cS, .slice AT T.length cT] 47)); have X3 : Hid ((w3.alloc (.cells #[.slice AS S.length cS, .slice AT T.length cT] 47)).heap[w3.heap.size]? = some (.cells #[.slice AS S.length cS, .slice AT T.length cT] 47)) := heap_alloc_new w3 _; have D3 := Lib.hid (And.intro (krdz d1 (below1 w3 (.cells #[.slice AS S.length cS, .slice AT T.length cT] 47))) (krdz d2 (below1 w3 (.cells #[.slice AS S.length cS, .slice AT T.length cT] 47)))); clear t1 t2; obtain ⟨⟨t1, t2⟩, _⟩ := two_of_block T3.out; obtain ⟨⟨x1, x2⟩, _⟩ := two_of_block X3.out; have hz3 := lt_of_block X3.out; clear hb d1 d2))
      | (go_at_call 30; ((with_reducible refine (HLv.out _ _ _ _ _ D3.out.1 D3.out.2).mono ?_); rintro e w4 ⟨rfl, hb⟩; have HB4 := Lib.hid (bel0 HB3.out hb); have T4 := Lib.hid (block_below T3.out hb); have X4 := Lib.hid (block_below X3.out hb); have D4 := Lib.hid (And.intro (krdz D3.out.1 hb) (krdz D3.out.2 hb)); clear t1 t2 x1 x2; obtain ⟨⟨t1, t2⟩, _⟩ := two_of_block T4.out; obtain ⟨⟨x1, x2⟩, _⟩ := two_of_block X4.out; clear hb))
      | (go_at_call 31; ((with_reducible refine (HC.out _ _ _ _ _ D4.out.1 D4.out.2).mono ?_); rintro e w5 ⟨rfl, hb⟩; have HB5 := Lib.hid (bel0 HB4.out hb); have T5 := Lib.hid (block_below T4.out hb); clear t1 t2 x1 x2; obtain ⟨⟨t1, t2⟩, _⟩ := two_of_block T5.out; have hz5 := lt_of_block T5.out; clear hb))
      | fail)
    go_ret
    exact ⟨rfl, HB5.out⟩
  · have h24' : ¬ 24 < n := by omega
    go_enter Try.func10, Try.ntmps10
    go_wp2_with (first
      | (go_at_call 23; ((with_reducible refine (HG.out _).mono ?_); rintro e w1 ⟨rfl, hb⟩; have HB1 : Hid (Below w.heap.size w w1) := bel1 (Below.refl _ _) hb; have T1 := Lib.hid (block_below T0.out hb); clear hb))
      | (go_at_call 12; ((with_reducible refine (awake_any _).mono ?_); rintro e w2 ⟨rfl, hb⟩; have HB2 := Lib.hid (bel0 HB1.out hb); have T2 := Lib.hid (block_below T1.out hb); obtain ⟨⟨t1, t2⟩, _⟩ := two_of_block T2.out; clear hb))
      | (go_at_call 21; ((with_reducible refine (HO.out _).mono ?_); rintro e w3 ⟨AS, cS, AT, cT, rfl, d1, d2, hb⟩; have HB3 : Hid (Below w.heap.size w (w3.alloc (.cells #[.slice AS S.length cS, .slice AT T.length cT] 47))) := bel0 (bel0 HB2.out hb) (below1 _ _); have T3 := Lib.hid (block_alloc (block_below T2.out hb) (.cells #[.slice AS S.length cS, .slice AT T.length cT] 47)); have X3 : Hid ((w3.alloc (.cells #[.slice AS S.length cS, .slice AT T.length cT] 47)).heap[w3.heap.size]? = some (.cells #[.slice AS S.length cS, .slice AT T.length cT] 47)) := heap_alloc_new w3 _; have D3 := Lib.hid (And.intro (krdz d1 (below1 w3 (.cells #[.slice AS S.length cS, .slice AT T.length cT] 47))) (krdz d2 (below1 w3 (.cells #[.slice AS S.length cS, .slice AT T.length cT] 47)))); clear t1 t2; obtain ⟨⟨t1, t2⟩, _⟩ := two_of_block T3.out; obtain ⟨⟨x1, x2⟩, _⟩ := two_of_block X3.out; have hz3 := lt_of_block X3.out; clear hb d1 d2))
      | (go_at_call 30; ((with_reducible refine (HLv.out _ _ _ _ _ D3.out.1 D3.out.2).mono ?_); rintro e w4 ⟨rfl, hb⟩; have HB4 := Lib.hid (bel0 HB3.out hb); have T4 := Lib.hid (block_below T3.out hb); have X4 := Lib.hid (block_below X3.out hb); have D4 := Lib.hid (And.intro (krdz D3.out.1 hb) (krdz D3.out.2 hb)); clear t1 t2 x1 x2; obtain ⟨⟨t1, t2⟩, _⟩ := two_of_block T4.out; obtain ⟨⟨x1, x2⟩, _⟩ := two_of_block X4.out; clear hb))
      | (go_at_call 31; ((with_reducible refine (HC.out _ _ _ _ _ D4.out.1 D4.out.2).mono ?_); rintro e w5 ⟨rfl, hb⟩; have HB5 := Lib.hid (bel0 HB4.out hb); have T5 := Lib.hid (block_below T4.out hb); clear t1 t2 x1 x2; obtain ⟨⟨t1, t2⟩, _⟩ := two_of_block T5.out; have hz5 := lt_of_block T5.out; clear hb))
      | fail)
    go_ret
    exact ⟨rfl, HB5.out⟩
theorem llv_walk (k n : Int) (w : World) :
    Calls Try.prog 10 #[.agg #[.int .i64 k, .int .i64 n]] w fun e w' => e = .returned (.bool true) ∧ Below w.heap.size w w' := by
  by_cases hg : grI k n = true
  · exact llv_great w fun W => by rw [← hg]; exact great_any k n W
  · have hg' : grI k n = false := by simpa using hg
    have HG := fun W => great_any k n W
    rw [hg'] at HG
    by_cases hz : ckxI k n = 0
    · exact llv_ok w HG (fun W => of_ok hz W) (fun W _ _ _ _ h1 h2 => level_ok hz W h1 h2) (fun W _ _ _ _ h1 h2 => congr_ok hz W h1 h2)
    · exact llv_err w hz HG fun W => of_err hz W
end Go.Proofs.Ytilfkppapimocaa
