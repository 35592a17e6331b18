/- The contracts of Has of all groups and all matrices, and of the reference's. -/
import Derived.Test.YtilfkppapimocaaGrpL
import Derived.Deep.DeepCutAuto
import Derived.Deep.CutBlock
import Derived.Deep.RegionHeld3
import Derived.Deep.QuietTactic
namespace Go.Proofs.Ytilfkppapimocaa
open Go.RowKit
set_option linter.unusedVariables false
set_option linter.unusedSimpArgs false

set_option maxHeartbeats 6400000 in
set_option maxRecDepth 1000000 in
theorem has_any (k n a b c d : Int) (w : World) : Calls Try.prog 13 #[.agg #[.int .i64 k, .int .i64 n], .agg #[.int .i64 a, .int .i64 b, .int .i64 c, .int .i64 d]] w fun e w' => e = .returned (.tuple #[.bool (hasR k n a b c d), .int .i64 (hasE k n a b c d)]) ∧ Below w.heap.size w w' := by
  have HC := Lib.hid (fun W => gcheck_any k n W)
  have HK := Lib.hid (fun W => check_any a b c d W)
  by_cases hg : gckI k n = 0
  case neg =>
    rw [show hasE k n a b c d = gckI k n from if_neg hg, show hasR k n a b c d = false from by unfold hasR; rw [show hasE k n a b c d = gckI k n from if_neg hg, if_neg hg]]
    generalize gckI k n = z at *
    go_enter Try.func13, Try.ntmps13
    go_wp2_with (first
      | (go_at_call 15; ((with_reducible refine (HC.out _).mono ?_); rintro e w1 ⟨rfl, hb⟩; have T : Hid (w1.heap[w.heap.size]? = some (.cells #[.int .i64 k, .int .i64 n] 24 (0, 0))) := block_below (block_alloc (heap_alloc_new w _) _) hb; have U : Hid (w1.heap[w.heap.size + 1]? = some (.cells #[.int .i64 a, .int .i64 b, .int .i64 c, .int .i64 d] 26 (0, 0))) := block_below (by have := heap_alloc_new (w.alloc (.cells #[.int .i64 k, .int .i64 n] 24)) (.cells #[.int .i64 a, .int .i64 b, .int .i64 c, .int .i64 d] 26); simpa using this) hb; have HB1 : Hid (Below w.heap.size w w1) := (below2 w _ _).trans (hb.mono (by simp; omega)); obtain ⟨⟨u1, u2, u3, u4⟩, _⟩ := four_of_block U.out; obtain ⟨⟨t1, t2⟩, _⟩ := two_of_block T.out; clear hb))
      | (go_at_call 35; ((with_reducible refine (HK.out _).mono ?_); rintro e w2 ⟨rfl, hb⟩; have T2 := Lib.hid (block_below T.out hb); have U2 := Lib.hid (block_below U.out hb); have HB2 : Hid (Below w.heap.size w w2) := HB1.out.trans (hb.mono HB1.out.size); clear u1 u2 u3 u4 t1 t2; obtain ⟨⟨u1, u2, u3, u4⟩, _⟩ := four_of_block U2.out; obtain ⟨⟨t1, t2⟩, _⟩ := two_of_block T2.out; clear hb))
      | fail)
    refine bodyPost_ret (v := .tuple #[.bool false, .int .i64 z]) ?_ rfl ⟨rfl, HB1.out⟩
    simp [results, Try.results13, go_sem, *]
  have hE : hasE k n a b c d = chkI a b c d := if_pos hg
  by_cases hk : chkI a b c d = 0
  case neg =>
    rw [show hasR k n a b c d = false from by unfold hasR; rw [hE, if_neg hk], hE]
    rw [hg] at HC
    clear hE hg
    generalize chkI a b c d = z at *
    go_enter Try.func13, Try.ntmps13
    go_wp2_with (first
      | (go_at_call 15; ((with_reducible refine (HC.out _).mono ?_); rintro e w1 ⟨rfl, hb⟩; have T : Hid (w1.heap[w.heap.size]? = some (.cells #[.int .i64 k, .int .i64 n] 24 (0, 0))) := block_below (block_alloc (heap_alloc_new w _) _) hb; have U : Hid (w1.heap[w.heap.size + 1]? = some (.cells #[.int .i64 a, .int .i64 b, .int .i64 c, .int .i64 d] 26 (0, 0))) := block_below (by have := heap_alloc_new (w.alloc (.cells #[.int .i64 k, .int .i64 n] 24)) (.cells #[.int .i64 a, .int .i64 b, .int .i64 c, .int .i64 d] 26); simpa using this) hb; have HB1 : Hid (Below w.heap.size w w1) := (below2 w _ _).trans (hb.mono (by simp; omega)); obtain ⟨⟨u1, u2, u3, u4⟩, _⟩ := four_of_block U.out; obtain ⟨⟨t1, t2⟩, _⟩ := two_of_block T.out; clear hb))
      | (go_at_call 35; ((with_reducible refine (HK.out _).mono ?_); rintro e w2 ⟨rfl, hb⟩; have T2 := Lib.hid (block_below T.out hb); have U2 := Lib.hid (block_below U.out hb); have HB2 : Hid (Below w.heap.size w w2) := HB1.out.trans (hb.mono HB1.out.size); clear u1 u2 u3 u4 t1 t2; obtain ⟨⟨u1, u2, u3, u4⟩, _⟩ := four_of_block U2.out; obtain ⟨⟨t1, t2⟩, _⟩ := two_of_block T2.out; clear hb))
      | fail)
    refine bodyPost_ret (v := .tuple #[.bool false, .int .i64 z]) ?_ rfl ⟨rfl, HB2.out⟩
    simp [results, Try.results13, go_sem, *]
  rw [show hasR k n a b c d = hasV k n a b c d from by unfold hasR; rw [hE, if_pos hk], hE, hk]
  rw [hk] at HK
  obtain ⟨hkk, ⟨n1, n2⟩⟩ : (1 ≤ k ∧ k ≤ 4) ∧ (1 ≤ n ∧ n ≤ 120) := by
    rcases gck_cases k n with ⟨_, e⟩ | ⟨_, _, e⟩ | ⟨h, h2, _⟩
    · rw [hg] at e; exact absurd e (by decide)
    · rw [hg] at e; exact absurd e (by decide)
    · exact ⟨h, h2⟩
  obtain ⟨⟨a1, a2⟩, ⟨b1, b2⟩, ⟨c1, c2⟩, ⟨e1, e2⟩⟩ : (-1073741824 ≤ a ∧ a ≤ 1073741824) ∧ (-1073741824 ≤ b ∧ b ≤ 1073741824) ∧ (-1073741824 ≤ c ∧ c ≤ 1073741824) ∧ (-1073741824 ≤ d ∧ d ≤ 1073741824) := by
    rcases chk_cases a b c d with ⟨_, e⟩ | ⟨h, _, _⟩ | ⟨_, _, e⟩
    · rw [hk] at e; exact absurd e (by decide)
    · exact fitB_iff.1 h
    · rw [hk] at e; exact absurd e (by decide)
  rw [hg] at HC
  clear hE hk hg
  have hn0 : ¬ n = 0 := by omega
  rcases four_kinds hkk with rfl | rfl | rfl | rfl
  all_goals clear hkk
  · skip
    by_cases h1 : (a - 1).tmod n = 0 <;> by_cases h3 : c.tmod n = 0
    all_goals
      generalize hv : hasV 1 n a b c d = v
      simp [hasV, h1, h3] at hv
      subst hv
      go_enter Try.func13, Try.ntmps13
      go_upto_region 7 with (first
        | (go_at_call 15; ((with_reducible refine (HC.out _).mono ?_); rintro e w1 ⟨rfl, hb⟩; have T : Hid (w1.heap[w.heap.size]? = some (.cells #[.int .i64 1, .int .i64 n] 24 (0, 0))) := block_below (block_alloc (heap_alloc_new w _) _) hb; have U : Hid (w1.heap[w.heap.size + 1]? = some (.cells #[.int .i64 a, .int .i64 b, .int .i64 c, .int .i64 d] 26 (0, 0))) := block_below (by have := heap_alloc_new (w.alloc (.cells #[.int .i64 1, .int .i64 n] 24)) (.cells #[.int .i64 a, .int .i64 b, .int .i64 c, .int .i64 d] 26); simpa using this) hb; have HB1 : Hid (Below w.heap.size w w1) := (below2 w _ _).trans (hb.mono (by simp; omega)); obtain ⟨⟨u1, u2, u3, u4⟩, _⟩ := four_of_block U.out; obtain ⟨⟨t1, t2⟩, _⟩ := two_of_block T.out; clear hb))
        | (go_at_call 35; ((with_reducible refine (HK.out _).mono ?_); rintro e w2 ⟨rfl, hb⟩; have T2 := Lib.hid (block_below T.out hb); have U2 := Lib.hid (block_below U.out hb); have HB2 : Hid (Below w.heap.size w w2) := HB1.out.trans (hb.mono HB1.out.size); clear u1 u2 u3 u4 t1 t2; obtain ⟨⟨u1, u2, u3, u4⟩, _⟩ := four_of_block U2.out; obtain ⟨⟨t1, t2⟩, _⟩ := two_of_block T2.out; clear hb))
        | fail)
      go_region
      go_wp2
      refine bodyPost_ret ?_ rfl ⟨rfl, HB2.out.drew⟩
      simp [results, Try.results13, go_sem, *]
  · skip
    by_cases h1 : (a - 1).tmod n = 0 <;> by_cases h2 : (d - 1).tmod n = 0 <;> by_cases h3 : c.tmod n = 0
    all_goals
      generalize hv : hasV 2 n a b c d = v
      simp [hasV, h1, h2, h3] at hv
      subst hv
      go_enter Try.func13, Try.ntmps13
      go_upto_region 7 with (first
        | (go_at_call 15; ((with_reducible refine (HC.out _).mono ?_); rintro e w1 ⟨rfl, hb⟩; have T : Hid (w1.heap[w.heap.size]? = some (.cells #[.int .i64 2, .int .i64 n] 24 (0, 0))) := block_below (block_alloc (heap_alloc_new w _) _) hb; have U : Hid (w1.heap[w.heap.size + 1]? = some (.cells #[.int .i64 a, .int .i64 b, .int .i64 c, .int .i64 d] 26 (0, 0))) := block_below (by have := heap_alloc_new (w.alloc (.cells #[.int .i64 2, .int .i64 n] 24)) (.cells #[.int .i64 a, .int .i64 b, .int .i64 c, .int .i64 d] 26); simpa using this) hb; have HB1 : Hid (Below w.heap.size w w1) := (below2 w _ _).trans (hb.mono (by simp; omega)); obtain ⟨⟨u1, u2, u3, u4⟩, _⟩ := four_of_block U.out; obtain ⟨⟨t1, t2⟩, _⟩ := two_of_block T.out; clear hb))
        | (go_at_call 35; ((with_reducible refine (HK.out _).mono ?_); rintro e w2 ⟨rfl, hb⟩; have T2 := Lib.hid (block_below T.out hb); have U2 := Lib.hid (block_below U.out hb); have HB2 : Hid (Below w.heap.size w w2) := HB1.out.trans (hb.mono HB1.out.size); clear u1 u2 u3 u4 t1 t2; obtain ⟨⟨u1, u2, u3, u4⟩, _⟩ := four_of_block U2.out; obtain ⟨⟨t1, t2⟩, _⟩ := two_of_block T2.out; clear hb))
        | fail)
      go_region
      go_wp2
      refine bodyPost_ret ?_ rfl ⟨rfl, HB2.out.drew⟩
      simp [results, Try.results13, go_sem, *]
  · skip
    by_cases h1 : (a - 1).tmod n = 0 <;> by_cases h2 : (d - 1).tmod n = 0 <;> by_cases h3 : c.tmod n = 0 <;> by_cases h4 : b.tmod n = 0
    all_goals
      generalize hv : hasV 3 n a b c d = v
      simp [hasV, h1, h2, h3, h4] at hv
      subst hv
      go_enter Try.func13, Try.ntmps13
      go_upto_region 7 with (first
        | (go_at_call 15; ((with_reducible refine (HC.out _).mono ?_); rintro e w1 ⟨rfl, hb⟩; have T : Hid (w1.heap[w.heap.size]? = some (.cells #[.int .i64 3, .int .i64 n] 24 (0, 0))) := block_below (block_alloc (heap_alloc_new w _) _) hb; have U : Hid (w1.heap[w.heap.size + 1]? = some (.cells #[.int .i64 a, .int .i64 b, .int .i64 c, .int .i64 d] 26 (0, 0))) := block_below (by have := heap_alloc_new (w.alloc (.cells #[.int .i64 3, .int .i64 n] 24)) (.cells #[.int .i64 a, .int .i64 b, .int .i64 c, .int .i64 d] 26); simpa using this) hb; have HB1 : Hid (Below w.heap.size w w1) := (below2 w _ _).trans (hb.mono (by simp; omega)); obtain ⟨⟨u1, u2, u3, u4⟩, _⟩ := four_of_block U.out; obtain ⟨⟨t1, t2⟩, _⟩ := two_of_block T.out; clear hb))
        | (go_at_call 35; ((with_reducible refine (HK.out _).mono ?_); rintro e w2 ⟨rfl, hb⟩; have T2 := Lib.hid (block_below T.out hb); have U2 := Lib.hid (block_below U.out hb); have HB2 : Hid (Below w.heap.size w w2) := HB1.out.trans (hb.mono HB1.out.size); clear u1 u2 u3 u4 t1 t2; obtain ⟨⟨u1, u2, u3, u4⟩, _⟩ := four_of_block U2.out; obtain ⟨⟨t1, t2⟩, _⟩ := two_of_block T2.out; clear hb))
        | fail)
      go_region
      go_wp2
      refine bodyPost_ret ?_ rfl ⟨rfl, HB2.out.drew⟩
      simp [results, Try.results13, go_sem, *]
  · skip
    by_cases h1 : (a - 1).tmod n = 0 <;> by_cases h4 : b.tmod n = 0
    all_goals
      generalize hv : hasV 4 n a b c d = v
      simp [hasV, h1, h4] at hv
      subst hv
      go_enter Try.func13, Try.ntmps13
      go_upto_region 7 with (first
        | (go_at_call 15; ((with_reducible refine (HC.out _).mono ?_); rintro e w1 ⟨rfl, hb⟩; have T : Hid (w1.heap[w.heap.size]? = some (.cells #[.int .i64 4, .int .i64 n] 24 (0, 0))) := block_below (block_alloc (heap_alloc_new w _) _) hb; have U : Hid (w1.heap[w.heap.size + 1]? = some (.cells #[.int .i64 a, .int .i64 b, .int .i64 c, .int .i64 d] 26 (0, 0))) := block_below (by have := heap_alloc_new (w.alloc (.cells #[.int .i64 4, .int .i64 n] 24)) (.cells #[.int .i64 a, .int .i64 b, .int .i64 c, .int .i64 d] 26); simpa using this) hb; have HB1 : Hid (Below w.heap.size w w1) := (below2 w _ _).trans (hb.mono (by simp; omega)); obtain ⟨⟨u1, u2, u3, u4⟩, _⟩ := four_of_block U.out; obtain ⟨⟨t1, t2⟩, _⟩ := two_of_block T.out; clear hb))
        | (go_at_call 35; ((with_reducible refine (HK.out _).mono ?_); rintro e w2 ⟨rfl, hb⟩; have T2 := Lib.hid (block_below T.out hb); have U2 := Lib.hid (block_below U.out hb); have HB2 : Hid (Below w.heap.size w w2) := HB1.out.trans (hb.mono HB1.out.size); clear u1 u2 u3 u4 t1 t2; obtain ⟨⟨u1, u2, u3, u4⟩, _⟩ := four_of_block U2.out; obtain ⟨⟨t1, t2⟩, _⟩ := two_of_block T2.out; clear hb))
        | fail)
      go_region
      go_wp2
      refine bodyPost_ret ?_ rfl ⟨rfl, HB2.out.drew⟩
      simp [results, Try.results13, go_sem, *]
end Go.Proofs.Ytilfkppapimocaa
