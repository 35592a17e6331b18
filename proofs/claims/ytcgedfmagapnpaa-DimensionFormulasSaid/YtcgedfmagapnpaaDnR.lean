/- The reference's CanSignature: groups without -1. -/
import Derived.Test.YtcgedfmagapnpaaDnO
namespace Go.Proofs.Ytcgedfmagapnpaa
open Go.RowKit
set_option linter.unusedVariables false
set_option linter.unusedSimpArgs false

set_option maxHeartbeats 6400000 in
set_option maxRecDepth 1000000 in
theorem rcan_f (ix gn n2 n3 cu ir : Int) (k : Int) (w : World) (k1' : 2 ≤ k) (k2' : k ≤ 24) (a0 : 0 ≤ ix) (b0 : ix ≤ 10000) (a1 : 0 ≤ gn) (b1 : gn ≤ 10000) (a2 : 0 ≤ n2) (b2 : n2 ≤ 10000) (a3 : 0 ≤ n3) (b3 : n3 ≤ 10000) (a4 : 0 ≤ cu) (b4 : cu ≤ 10000) (a5 : 0 ≤ ir) (b5 : ir ≤ 10000) (p1 : ir ≤ cu) :
    Calls Try.prog 31 #[.agg #[.int .i64 ix, .int .i64 gn, .int .i64 n2, .int .i64 n3, .int .i64 cu, .int .i64 ir, .bool false], .int .i64 k] w fun e w' => e = .returned (.int .i64 (cksV ix gn n2 n3 cu ir false k)) ∧ Below w.heap.size w w' := by
  have T0 : Hid ((w.alloc (.cells #[.int .i64 ix, .int .i64 gn, .int .i64 n2, .int .i64 n3, .int .i64 cu, .int .i64 ir, .bool false] 32)).heap[w.heap.size]? = some (.cells #[.int .i64 ix, .int .i64 gn, .int .i64 n2, .int .i64 n3, .int .i64 cu, .int .i64 ir, .bool false] 32 (0, 0))) := heap_alloc_new w _
  have HB0 : Hid (Below w.heap.size w (w.alloc (.cells #[.int .i64 ix, .int .i64 gn, .int .i64 n2, .int .i64 n3, .int .i64 cu, .int .i64 ir, .bool false] 32))) := below1 w _
  obtain ⟨⟨c0, c1, c2, c3, c4, c5, c6⟩, _⟩ := seven_of_block T0.out
  have hix0 := ixT0 ix gn n2 n3 cu ir
  have hix1 := ixT1 ix gn n2 n3 cu ir
  have hix2 := ixT2 ix gn n2 n3 cu ir
  have hix3 := ixT3 ix gn n2 n3 cu ir
  have hix4 := ixT4 ix gn n2 n3 cu ir
  have hix5 := ixT5 ix gn n2 n3 cu ir
  have hI : cksV ix gn n2 n3 cu ir false k = if (decide (ir ≤ cu) && !(false && decide (ir ≠ 0)) && !(!false && (decide (n2 ≠ 0) || decide ((cu - ir) % 2 ≠ 0))) && decide (12 * gn = 12 + ix - 3 * n2 - 4 * n3 - 6 * cu)) = false then 3 else if (decide (k % 2 = 1) && false) = true then 16 else 0 := by
    unfold cksV isgB
    rw [if_neg (by omega), decide_eq_true (And.intro a0 b0), decide_eq_true (And.intro a1 b1), decide_eq_true (And.intro a2 b2), decide_eq_true (And.intro a3 b3), decide_eq_true (And.intro a4 b4), decide_eq_true (And.intro a5 b5)]
    simp only [Bool.true_and]
  rw [hI]
  clear hI
  have hci : 0 ≤ cu - ir := by omega
  have hq : decide (12 * gn = 12 + ix - 3 * n2 - 4 * n3 - 6 * cu) = !(12 * gn != 12 + ix - 3 * n2 - 4 * n3 - 6 * cu) := by
    by_cases h : 12 * gn = 12 + ix - 3 * n2 - 4 * n3 - 6 * cu
    · rw [decide_eq_true h, bne_eq_false_iff_eq.2 h]; rfl
    · rw [decide_eq_false h, bne_iff_ne.2 h]; rfl
  rw [hq, decide_eq_true p1]
  clear hq
  have hk : (decide (k % 2 = 1) = true ∧ (k % 2 != 0) = true) ∨ (decide (k % 2 = 1) = false ∧ (k % 2 != 0) = false) := by
    by_cases h : k % 2 = 1
    · exact .inl ⟨decide_eq_true h, by rw [bne_iff_ne]; omega⟩
    · exact .inr ⟨decide_eq_false h, by rw [bne_eq_false_iff_eq]; omega⟩
  by_cases p2 : n2 = 0
  · have f2 : ¬ 0 < n2 := by omega
    have f2' : n2 ≤ 0 := by omega
    rw [decide_eq_false (show ¬ n2 ≠ 0 by omega)]
    clear p2
    by_cases p3 : (cu - ir) % 2 = 0
    · have f3 : ((cu - ir) % 2 != 0) = false := by rw [bne_eq_false_iff_eq]; exact p3
      rw [decide_eq_false (show ¬ (cu - ir) % 2 ≠ 0 by omega)]
      clear p3
      cases hQ : (12 * gn != 12 + ix - 3 * n2 - 4 * n3 - 6 * cu) with
      | true =>
        clear hk
        go_enter Try.func31, Try.ntmps31
        go_wp2
        refine wp_loop_rounds 8 ?_
        rw [rounds_succ]
        go_wp2
        rw [rounds_succ]
        go_wp2
        rw [rounds_succ]
        go_wp2
        rw [rounds_succ]
        go_wp2
        rw [rounds_succ]
        go_wp2
        rw [rounds_succ]
        go_wp2
        rw [rounds_succ]
        go_wp2
        refine bodyPost_ret ?_ rfl ⟨rfl, HB0.out⟩
        simp [results, Try.results31, go_sem]
      | false =>
        rcases hk with ⟨hk1, hk2⟩ | ⟨hk1, hk2⟩
        all_goals
          rw [hk1]
          go_enter Try.func31, Try.ntmps31
          go_wp2
          refine wp_loop_rounds 8 ?_
          rw [rounds_succ]
          go_wp2
          rw [rounds_succ]
          go_wp2
          rw [rounds_succ]
          go_wp2
          rw [rounds_succ]
          go_wp2
          rw [rounds_succ]
          go_wp2
          rw [rounds_succ]
          go_wp2
          rw [rounds_succ]
          go_wp2
          refine bodyPost_ret ?_ rfl ⟨rfl, HB0.out⟩
          simp [results, Try.results31, go_sem]
    · have f3 : ((cu - ir) % 2 != 0) = true := by rw [bne_iff_ne]; exact p3
      rw [decide_eq_true p3]
      clear p3 hk
      go_enter Try.func31, Try.ntmps31
      go_wp2
      refine wp_loop_rounds 8 ?_
      rw [rounds_succ]
      go_wp2
      rw [rounds_succ]
      go_wp2
      rw [rounds_succ]
      go_wp2
      rw [rounds_succ]
      go_wp2
      rw [rounds_succ]
      go_wp2
      rw [rounds_succ]
      go_wp2
      rw [rounds_succ]
      go_wp2
      refine bodyPost_ret ?_ rfl ⟨rfl, HB0.out⟩
      simp [results, Try.results31, go_sem]
  · have f2 : 0 < n2 := by omega
    rw [decide_eq_true p2]
    clear p2 hk
    go_enter Try.func31, Try.ntmps31
    go_wp2
    refine wp_loop_rounds 8 ?_
    rw [rounds_succ]
    go_wp2
    rw [rounds_succ]
    go_wp2
    rw [rounds_succ]
    go_wp2
    rw [rounds_succ]
    go_wp2
    rw [rounds_succ]
    go_wp2
    rw [rounds_succ]
    go_wp2
    rw [rounds_succ]
    go_wp2
    refine bodyPost_ret ?_ rfl ⟨rfl, HB0.out⟩
    simp [results, Try.results31, go_sem]
end Go.Proofs.Ytcgedfmagapnpaa
