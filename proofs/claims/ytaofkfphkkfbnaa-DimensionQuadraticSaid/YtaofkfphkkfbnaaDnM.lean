/- The dimensions of a signature: the project's. -/
import Derived.Test.YtaofkfphkkfbnaaDnL
namespace Go.Proofs.Ytaofkfphkkfbnaa
open Go.RowKit
set_option linter.unusedVariables false
set_option linter.unusedSimpArgs false

/-- Whether the numbers of a signature are possible. -/
def isgB (ix gn n2 n3 cu ir : Int) (mi : Bool) : Bool :=
  decide (0 ≤ ix ∧ ix ≤ 10000) && decide (0 ≤ gn ∧ gn ≤ 10000) && decide (0 ≤ n2 ∧ n2 ≤ 10000) && decide (0 ≤ n3 ∧ n3 ≤ 10000) && decide (0 ≤ cu ∧ cu ≤ 10000) && decide (0 ≤ ir ∧ ir ≤ 10000) && decide (ir ≤ cu) && !(mi && decide (ir ≠ 0)) && !(!mi && (decide (n2 ≠ 0) || decide ((cu - ir) % 2 ≠ 0))) && decide (12 * gn = 12 + ix - 3 * n2 - 4 * n3 - 6 * cu)
theorem six_of_block {w : World} {b : Nat} {x0 x1 x2 x3 x4 x5 : Value} {t : TypeId} (h : w.heap[b]? = some (.cells #[x0, x1, x2, x3, x4, x5] t (0, 0))) :
    w.cell? ⟨b, 0, none⟩ = some x0 ∧ w.cell? ⟨b, 1, none⟩ = some x1 ∧ w.cell? ⟨b, 2, none⟩ = some x2 ∧ w.cell? ⟨b, 3, none⟩ = some x3 ∧ w.cell? ⟨b, 4, none⟩ = some x4 ∧ w.cell? ⟨b, 5, none⟩ = some x5 :=
  ⟨by rw [cell_of_row w b 0 _ t _ h]; rfl, by rw [cell_of_row w b 1 _ t _ h]; rfl, by rw [cell_of_row w b 2 _ t _ h]; rfl, by rw [cell_of_row w b 3 _ t _ h]; rfl, by rw [cell_of_row w b 4 _ t _ h]; rfl, by rw [cell_of_row w b 5 _ t _ h]; rfl⟩
set_option maxHeartbeats 6400000 in
set_option maxRecDepth 1000000 in
theorem issig_any (ix gn n2 n3 cu ir : Int) (mi : Bool) (w : World) :
    Calls Try.prog 94 #[.agg #[.int .i64 ix, .int .i64 gn, .int .i64 n2, .int .i64 n3, .int .i64 cu, .int .i64 ir, .bool mi]] w fun e w' => e = .returned (.bool (isgB ix gn n2 n3 cu ir mi)) ∧ Below w.heap.size w w' := by
  have T0 : Hid ((w.alloc (.cells #[.int .i64 ix, .int .i64 gn, .int .i64 n2, .int .i64 n3, .int .i64 cu, .int .i64 ir, .bool mi] 32)).heap[w.heap.size]? = some (.cells #[.int .i64 ix, .int .i64 gn, .int .i64 n2, .int .i64 n3, .int .i64 cu, .int .i64 ir, .bool mi] 32 (0, 0))) := heap_alloc_new w _
  obtain ⟨⟨c0, c1, c2, c3, c4, c5, c6⟩, _⟩ := seven_of_block T0.out
  have HB0 : Hid (Below w.heap.size w ((w.alloc (.cells #[.int .i64 ix, .int .i64 gn, .int .i64 n2, .int .i64 n3, .int .i64 cu, .int .i64 ir, .bool mi] 32)).alloc (.cells #[.int .i64 ix, .int .i64 gn, .int .i64 n2, .int .i64 n3, .int .i64 cu, .int .i64 ir] 3))) := below2 w _ _
  have T1 := Lib.hid (block_alloc T0.out (.cells #[.int .i64 ix, .int .i64 gn, .int .i64 n2, .int .i64 n3, .int .i64 cu, .int .i64 ir] 3))
  obtain ⟨⟨e0, e1, e2, e3, e4, e5, e6⟩, _⟩ := seven_of_block T1.out
  have S1 : Hid (((w.alloc (.cells #[.int .i64 ix, .int .i64 gn, .int .i64 n2, .int .i64 n3, .int .i64 cu, .int .i64 ir, .bool mi] 32)).alloc (.cells #[.int .i64 ix, .int .i64 gn, .int .i64 n2, .int .i64 n3, .int .i64 cu, .int .i64 ir] 3)).heap[w.heap.size + 1]? = some (.cells #[.int .i64 ix, .int .i64 gn, .int .i64 n2, .int .i64 n3, .int .i64 cu, .int .i64 ir] 3 (0, 0))) := by
    have := heap_alloc_new (w.alloc (.cells #[.int .i64 ix, .int .i64 gn, .int .i64 n2, .int .i64 n3, .int .i64 cu, .int .i64 ir, .bool mi] 32)) (.cells #[.int .i64 ix, .int .i64 gn, .int .i64 n2, .int .i64 n3, .int .i64 cu, .int .i64 ir] 3)
    show _ = _
    simpa using this
  obtain ⟨s0, s1, s2, s3, s4, s5⟩ := six_of_block S1.out
  by_cases h0_0 : ix < 0
  · have HE : Hid (isgB ix gn n2 n3 cu ir mi = false) := by
      show _ = _
      unfold isgB
      rw [show decide (0 ≤ ix ∧ ix ≤ 10000) = false from decide_eq_false (by omega)]
      simp
    rw [HE.out]
    go_enter Try.func94, Try.ntmps94
    go_wp2
    refine wp_loop_rounds 8 ?_
    rw [rounds_succ]
    go_wp2
    go_ret
    exact ⟨rfl, HB0.out⟩
  by_cases h0_1 : 10000 < ix
  · have HE : Hid (isgB ix gn n2 n3 cu ir mi = false) := by
      show _ = _
      unfold isgB
      rw [show decide (0 ≤ ix ∧ ix ≤ 10000) = false from decide_eq_false (by omega)]
      simp
    rw [HE.out]
    have g0 : 0 ≤ ix := by omega
    go_enter Try.func94, Try.ntmps94
    go_wp2
    refine wp_loop_rounds 8 ?_
    rw [rounds_succ]
    go_wp2
    go_ret
    exact ⟨rfl, HB0.out⟩
  have a0 : 0 ≤ ix := by omega
  have b0 : ix ≤ 10000 := by omega
  clear h0_0 h0_1
  by_cases h1_0 : gn < 0
  · have HE : Hid (isgB ix gn n2 n3 cu ir mi = false) := by
      show _ = _
      unfold isgB
      rw [show decide (0 ≤ gn ∧ gn ≤ 10000) = false from decide_eq_false (by omega)]
      simp
    rw [HE.out]
    go_enter Try.func94, Try.ntmps94
    go_wp2
    refine wp_loop_rounds 8 ?_
    rw [rounds_succ]
    go_wp2
    rw [rounds_succ]
    go_wp2
    go_ret
    exact ⟨rfl, HB0.out⟩
  by_cases h1_1 : 10000 < gn
  · have HE : Hid (isgB ix gn n2 n3 cu ir mi = false) := by
      show _ = _
      unfold isgB
      rw [show decide (0 ≤ gn ∧ gn ≤ 10000) = false from decide_eq_false (by omega)]
      simp
    rw [HE.out]
    have g1 : 0 ≤ gn := by omega
    go_enter Try.func94, Try.ntmps94
    go_wp2
    refine wp_loop_rounds 8 ?_
    rw [rounds_succ]
    go_wp2
    rw [rounds_succ]
    go_wp2
    go_ret
    exact ⟨rfl, HB0.out⟩
  have a1 : 0 ≤ gn := by omega
  have b1 : gn ≤ 10000 := by omega
  clear h1_0 h1_1
  by_cases h2_0 : n2 < 0
  · have HE : Hid (isgB ix gn n2 n3 cu ir mi = false) := by
      show _ = _
      unfold isgB
      rw [show decide (0 ≤ n2 ∧ n2 ≤ 10000) = false from decide_eq_false (by omega)]
      simp
    rw [HE.out]
    go_enter Try.func94, Try.ntmps94
    go_wp2
    refine wp_loop_rounds 8 ?_
    rw [rounds_succ]
    go_wp2
    rw [rounds_succ]
    go_wp2
    rw [rounds_succ]
    go_wp2
    go_ret
    exact ⟨rfl, HB0.out⟩
  by_cases h2_1 : 10000 < n2
  · have HE : Hid (isgB ix gn n2 n3 cu ir mi = false) := by
      show _ = _
      unfold isgB
      rw [show decide (0 ≤ n2 ∧ n2 ≤ 10000) = false from decide_eq_false (by omega)]
      simp
    rw [HE.out]
    have g2 : 0 ≤ n2 := by omega
    go_enter Try.func94, Try.ntmps94
    go_wp2
    refine wp_loop_rounds 8 ?_
    rw [rounds_succ]
    go_wp2
    rw [rounds_succ]
    go_wp2
    rw [rounds_succ]
    go_wp2
    go_ret
    exact ⟨rfl, HB0.out⟩
  have a2 : 0 ≤ n2 := by omega
  have b2 : n2 ≤ 10000 := by omega
  clear h2_0 h2_1
  by_cases h3_0 : n3 < 0
  · have HE : Hid (isgB ix gn n2 n3 cu ir mi = false) := by
      show _ = _
      unfold isgB
      rw [show decide (0 ≤ n3 ∧ n3 ≤ 10000) = false from decide_eq_false (by omega)]
      simp
    rw [HE.out]
    go_enter Try.func94, Try.ntmps94
    go_wp2
    refine wp_loop_rounds 8 ?_
    rw [rounds_succ]
    go_wp2
    rw [rounds_succ]
    go_wp2
    rw [rounds_succ]
    go_wp2
    rw [rounds_succ]
    go_wp2
    go_ret
    exact ⟨rfl, HB0.out⟩
  by_cases h3_1 : 10000 < n3
  · have HE : Hid (isgB ix gn n2 n3 cu ir mi = false) := by
      show _ = _
      unfold isgB
      rw [show decide (0 ≤ n3 ∧ n3 ≤ 10000) = false from decide_eq_false (by omega)]
      simp
    rw [HE.out]
    have g3 : 0 ≤ n3 := by omega
    go_enter Try.func94, Try.ntmps94
    go_wp2
    refine wp_loop_rounds 8 ?_
    rw [rounds_succ]
    go_wp2
    rw [rounds_succ]
    go_wp2
    rw [rounds_succ]
    go_wp2
    rw [rounds_succ]
    go_wp2
    go_ret
    exact ⟨rfl, HB0.out⟩
  have a3 : 0 ≤ n3 := by omega
  have b3 : n3 ≤ 10000 := by omega
  clear h3_0 h3_1
  by_cases h4_0 : cu < 0
  · have HE : Hid (isgB ix gn n2 n3 cu ir mi = false) := by
      show _ = _
      unfold isgB
      rw [show decide (0 ≤ cu ∧ cu ≤ 10000) = false from decide_eq_false (by omega)]
      simp
    rw [HE.out]
    go_enter Try.func94, Try.ntmps94
    go_wp2
    refine wp_loop_rounds 8 ?_
    rw [rounds_succ]
    go_wp2
    rw [rounds_succ]
    go_wp2
    rw [rounds_succ]
    go_wp2
    rw [rounds_succ]
    go_wp2
    rw [rounds_succ]
    go_wp2
    go_ret
    exact ⟨rfl, HB0.out⟩
  by_cases h4_1 : 10000 < cu
  · have HE : Hid (isgB ix gn n2 n3 cu ir mi = false) := by
      show _ = _
      unfold isgB
      rw [show decide (0 ≤ cu ∧ cu ≤ 10000) = false from decide_eq_false (by omega)]
      simp
    rw [HE.out]
    have g4 : 0 ≤ cu := by omega
    go_enter Try.func94, Try.ntmps94
    go_wp2
    refine wp_loop_rounds 8 ?_
    rw [rounds_succ]
    go_wp2
    rw [rounds_succ]
    go_wp2
    rw [rounds_succ]
    go_wp2
    rw [rounds_succ]
    go_wp2
    rw [rounds_succ]
    go_wp2
    go_ret
    exact ⟨rfl, HB0.out⟩
  have a4 : 0 ≤ cu := by omega
  have b4 : cu ≤ 10000 := by omega
  clear h4_0 h4_1
  by_cases h5_0 : ir < 0
  · have HE : Hid (isgB ix gn n2 n3 cu ir mi = false) := by
      show _ = _
      unfold isgB
      rw [show decide (0 ≤ ir ∧ ir ≤ 10000) = false from decide_eq_false (by omega)]
      simp
    rw [HE.out]
    go_enter Try.func94, Try.ntmps94
    go_wp2
    refine wp_loop_rounds 8 ?_
    rw [rounds_succ]
    go_wp2
    rw [rounds_succ]
    go_wp2
    rw [rounds_succ]
    go_wp2
    rw [rounds_succ]
    go_wp2
    rw [rounds_succ]
    go_wp2
    rw [rounds_succ]
    go_wp2
    go_ret
    exact ⟨rfl, HB0.out⟩
  by_cases h5_1 : 10000 < ir
  · have HE : Hid (isgB ix gn n2 n3 cu ir mi = false) := by
      show _ = _
      unfold isgB
      rw [show decide (0 ≤ ir ∧ ir ≤ 10000) = false from decide_eq_false (by omega)]
      simp
    rw [HE.out]
    have g5 : 0 ≤ ir := by omega
    go_enter Try.func94, Try.ntmps94
    go_wp2
    refine wp_loop_rounds 8 ?_
    rw [rounds_succ]
    go_wp2
    rw [rounds_succ]
    go_wp2
    rw [rounds_succ]
    go_wp2
    rw [rounds_succ]
    go_wp2
    rw [rounds_succ]
    go_wp2
    rw [rounds_succ]
    go_wp2
    go_ret
    exact ⟨rfl, HB0.out⟩
  have a5 : 0 ≤ ir := by omega
  have b5 : ir ≤ 10000 := by omega
  clear h5_0 h5_1
  have hI : isgB ix gn n2 n3 cu ir mi = (decide (ir ≤ cu) && !(mi && decide (ir ≠ 0)) && !(!mi && (decide (n2 ≠ 0) || decide ((cu - ir) % 2 ≠ 0))) && decide (12 * gn = 12 + ix - 3 * n2 - 4 * n3 - 6 * cu)) := by
    unfold isgB
    rw [decide_eq_true (And.intro a0 b0), decide_eq_true (And.intro a1 b1), decide_eq_true (And.intro a2 b2), decide_eq_true (And.intro a3 b3), decide_eq_true (And.intro a4 b4), decide_eq_true (And.intro a5 b5)]
    simp only [Bool.true_and]
  rw [hI]
  clear hI
  by_cases p1 : ir ≤ cu
  · have hci : 0 ≤ cu - ir := by omega
    have hq : decide (12 * gn = 12 + ix - 3 * n2 - 4 * n3 - 6 * cu) = (12 * gn == 12 + ix - 3 * n2 - 4 * n3 - 6 * cu) := by
      by_cases h : 12 * gn = 12 + ix - 3 * n2 - 4 * n3 - 6 * cu
      · rw [decide_eq_true h, beq_iff_eq.2 h]
      · rw [decide_eq_false h]; exact (beq_eq_false_iff_ne.2 h).symm
    rw [hq]
    clear hq
    rw [decide_eq_true p1]
    generalize hQ : (12 * gn == 12 + ix - 3 * n2 - 4 * n3 - 6 * cu) = Q
    cases mi with
    | true =>
      by_cases p2 : ir = 0
      · have f2 : (ir != 0) = false := by rw [bne_eq_false_iff_eq]; exact p2
        rw [decide_eq_false (show ¬ ir ≠ 0 by omega)]
        clear p2
        go_enter Try.func94, Try.ntmps94
        go_wp2
        refine wp_loop_rounds 8 ?_
        rw [rounds_succ]
        go_wp2
        rw [rounds_succ]
        go_wp2
        rw [rounds_succ]
        go_wp2
        rw [rounds_succ]
        go_wp2
        rw [rounds_succ]
        go_wp2
        rw [rounds_succ]
        go_wp2
        rw [rounds_succ]
        go_wp2
        go_ret
        exact ⟨rfl, HB0.out⟩
      · have f2 : (ir != 0) = true := by rw [bne_iff_ne]; exact p2
        rw [decide_eq_true p2]
        clear p2
        go_enter Try.func94, Try.ntmps94
        go_wp2
        refine wp_loop_rounds 8 ?_
        rw [rounds_succ]
        go_wp2
        rw [rounds_succ]
        go_wp2
        rw [rounds_succ]
        go_wp2
        rw [rounds_succ]
        go_wp2
        rw [rounds_succ]
        go_wp2
        rw [rounds_succ]
        go_wp2
        rw [rounds_succ]
        go_wp2
        go_ret
        exact ⟨rfl, HB0.out⟩
    | false =>
      by_cases p2 : n2 = 0
      · have f2 : (n2 != 0) = false := by rw [bne_eq_false_iff_eq]; exact p2
        rw [decide_eq_false (show ¬ n2 ≠ 0 by omega)]
        clear p2
        by_cases p3 : (cu - ir) % 2 = 0
        · have f3 : ((cu - ir) % 2 != 0) = false := by rw [bne_eq_false_iff_eq]; exact p3
          rw [decide_eq_false (show ¬ (cu - ir) % 2 ≠ 0 by omega)]
          clear p3
          go_enter Try.func94, Try.ntmps94
          go_wp2
          refine wp_loop_rounds 8 ?_
          rw [rounds_succ]
          go_wp2
          rw [rounds_succ]
          go_wp2
          rw [rounds_succ]
          go_wp2
          rw [rounds_succ]
          go_wp2
          rw [rounds_succ]
          go_wp2
          rw [rounds_succ]
          go_wp2
          rw [rounds_succ]
          go_wp2
          go_ret
          exact ⟨rfl, HB0.out⟩
        · have f3 : ((cu - ir) % 2 != 0) = true := by rw [bne_iff_ne]; exact p3
          rw [decide_eq_true p3]
          clear p3
          go_enter Try.func94, Try.ntmps94
          go_wp2
          refine wp_loop_rounds 8 ?_
          rw [rounds_succ]
          go_wp2
          rw [rounds_succ]
          go_wp2
          rw [rounds_succ]
          go_wp2
          rw [rounds_succ]
          go_wp2
          rw [rounds_succ]
          go_wp2
          rw [rounds_succ]
          go_wp2
          rw [rounds_succ]
          go_wp2
          go_ret
          exact ⟨rfl, HB0.out⟩
      · have f2 : (n2 != 0) = true := by rw [bne_iff_ne]; exact p2
        rw [decide_eq_true p2]
        clear p2
        go_enter Try.func94, Try.ntmps94
        go_wp2
        refine wp_loop_rounds 8 ?_
        rw [rounds_succ]
        go_wp2
        rw [rounds_succ]
        go_wp2
        rw [rounds_succ]
        go_wp2
        rw [rounds_succ]
        go_wp2
        rw [rounds_succ]
        go_wp2
        rw [rounds_succ]
        go_wp2
        rw [rounds_succ]
        go_wp2
        go_ret
        exact ⟨rfl, HB0.out⟩
  · have p1' : cu < ir := by omega
    rw [decide_eq_false p1]
    clear p1
    go_enter Try.func94, Try.ntmps94
    go_wp2
    refine wp_loop_rounds 8 ?_
    rw [rounds_succ]
    go_wp2
    rw [rounds_succ]
    go_wp2
    rw [rounds_succ]
    go_wp2
    rw [rounds_succ]
    go_wp2
    rw [rounds_succ]
    go_wp2
    rw [rounds_succ]
    go_wp2
    rw [rounds_succ]
    go_wp2
    go_ret
    exact ⟨rfl, HB0.out⟩
end Go.Proofs.Ytaofkfphkkfbnaa
