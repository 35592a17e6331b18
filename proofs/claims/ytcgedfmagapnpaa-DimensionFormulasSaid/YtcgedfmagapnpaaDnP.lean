/- The reference's CanSignature: the last numbers out of range. -/
import Derived.Test.YtcgedfmagapnpaaDnO
namespace Go.Proofs.Ytcgedfmagapnpaa
open Go.RowKit
set_option linter.unusedVariables false
set_option linter.unusedSimpArgs false

set_option maxHeartbeats 6400000 in
set_option maxRecDepth 1000000 in
theorem rcan_b30 (ix gn n2 n3 cu ir : Int) (mi : Bool) (k : Int) (w : World) (k1' : 2 ≤ k) (k2' : k ≤ 24) (a0 : 0 ≤ ix) (b0 : ix ≤ 10000) (a1 : 0 ≤ gn) (b1 : gn ≤ 10000) (a2 : 0 ≤ n2) (b2 : n2 ≤ 10000) (h : n3 < 0) :
    Calls Try.prog 31 #[.agg #[.int .i64 ix, .int .i64 gn, .int .i64 n2, .int .i64 n3, .int .i64 cu, .int .i64 ir, .bool mi], .int .i64 k] w fun e w' => e = .returned (.int .i64 (cksV ix gn n2 n3 cu ir mi k)) ∧ Below w.heap.size w w' := by
  have HE : Hid (cksV ix gn n2 n3 cu ir mi k = 3) := by
    show _ = _
    unfold cksV isgB
    rw [if_neg (by omega), show decide (0 ≤ n3 ∧ n3 ≤ 10000) = false from decide_eq_false (by omega)]
    simp
  rw [HE.out]
  have T0 : Hid ((w.alloc (.cells #[.int .i64 ix, .int .i64 gn, .int .i64 n2, .int .i64 n3, .int .i64 cu, .int .i64 ir, .bool mi] 32)).heap[w.heap.size]? = some (.cells #[.int .i64 ix, .int .i64 gn, .int .i64 n2, .int .i64 n3, .int .i64 cu, .int .i64 ir, .bool mi] 32 (0, 0))) := heap_alloc_new w _
  have HB0 : Hid (Below w.heap.size w (w.alloc (.cells #[.int .i64 ix, .int .i64 gn, .int .i64 n2, .int .i64 n3, .int .i64 cu, .int .i64 ir, .bool mi] 32))) := below1 w _
  obtain ⟨⟨c0, c1, c2, c3, c4, c5, c6⟩, _⟩ := seven_of_block T0.out
  have hix0 := ixT0 ix gn n2 n3 cu ir
  have hix1 := ixT1 ix gn n2 n3 cu ir
  have hix2 := ixT2 ix gn n2 n3 cu ir
  have hix3 := ixT3 ix gn n2 n3 cu ir
  have hix4 := ixT4 ix gn n2 n3 cu ir
  have hix5 := ixT5 ix gn n2 n3 cu ir
  go_enter Try.func31, Try.ntmps31
  go_wp2
  refine wp_loop_rounds 8 ?_
  rw [rounds_succ]
  go_wp2
  rw [rounds_succ]
  go_wp2
  rw [rounds_succ]
  go_wp2
  rw [rounds_succ]
  go_wp2
  refine bodyPost_ret ?_ rfl ⟨rfl, HB0.out⟩
  simp [results, Try.results31, go_sem]
set_option maxHeartbeats 6400000 in
set_option maxRecDepth 1000000 in
theorem rcan_b31 (ix gn n2 n3 cu ir : Int) (mi : Bool) (k : Int) (w : World) (k1' : 2 ≤ k) (k2' : k ≤ 24) (a0 : 0 ≤ ix) (b0 : ix ≤ 10000) (a1 : 0 ≤ gn) (b1 : gn ≤ 10000) (a2 : 0 ≤ n2) (b2 : n2 ≤ 10000) (h : 10000 < n3) :
    Calls Try.prog 31 #[.agg #[.int .i64 ix, .int .i64 gn, .int .i64 n2, .int .i64 n3, .int .i64 cu, .int .i64 ir, .bool mi], .int .i64 k] w fun e w' => e = .returned (.int .i64 (cksV ix gn n2 n3 cu ir mi k)) ∧ Below w.heap.size w w' := by
  have HE : Hid (cksV ix gn n2 n3 cu ir mi k = 3) := by
    show _ = _
    unfold cksV isgB
    rw [if_neg (by omega), show decide (0 ≤ n3 ∧ n3 ≤ 10000) = false from decide_eq_false (by omega)]
    simp
  rw [HE.out]
  have T0 : Hid ((w.alloc (.cells #[.int .i64 ix, .int .i64 gn, .int .i64 n2, .int .i64 n3, .int .i64 cu, .int .i64 ir, .bool mi] 32)).heap[w.heap.size]? = some (.cells #[.int .i64 ix, .int .i64 gn, .int .i64 n2, .int .i64 n3, .int .i64 cu, .int .i64 ir, .bool mi] 32 (0, 0))) := heap_alloc_new w _
  have HB0 : Hid (Below w.heap.size w (w.alloc (.cells #[.int .i64 ix, .int .i64 gn, .int .i64 n2, .int .i64 n3, .int .i64 cu, .int .i64 ir, .bool mi] 32))) := below1 w _
  obtain ⟨⟨c0, c1, c2, c3, c4, c5, c6⟩, _⟩ := seven_of_block T0.out
  have hix0 := ixT0 ix gn n2 n3 cu ir
  have hix1 := ixT1 ix gn n2 n3 cu ir
  have hix2 := ixT2 ix gn n2 n3 cu ir
  have hix3 := ixT3 ix gn n2 n3 cu ir
  have hix4 := ixT4 ix gn n2 n3 cu ir
  have hix5 := ixT5 ix gn n2 n3 cu ir
  have g3 : 0 ≤ n3 := by omega
  go_enter Try.func31, Try.ntmps31
  go_wp2
  refine wp_loop_rounds 8 ?_
  rw [rounds_succ]
  go_wp2
  rw [rounds_succ]
  go_wp2
  rw [rounds_succ]
  go_wp2
  rw [rounds_succ]
  go_wp2
  refine bodyPost_ret ?_ rfl ⟨rfl, HB0.out⟩
  simp [results, Try.results31, go_sem]
set_option maxHeartbeats 6400000 in
set_option maxRecDepth 1000000 in
theorem rcan_b40 (ix gn n2 n3 cu ir : Int) (mi : Bool) (k : Int) (w : World) (k1' : 2 ≤ k) (k2' : k ≤ 24) (a0 : 0 ≤ ix) (b0 : ix ≤ 10000) (a1 : 0 ≤ gn) (b1 : gn ≤ 10000) (a2 : 0 ≤ n2) (b2 : n2 ≤ 10000) (a3 : 0 ≤ n3) (b3 : n3 ≤ 10000) (h : cu < 0) :
    Calls Try.prog 31 #[.agg #[.int .i64 ix, .int .i64 gn, .int .i64 n2, .int .i64 n3, .int .i64 cu, .int .i64 ir, .bool mi], .int .i64 k] w fun e w' => e = .returned (.int .i64 (cksV ix gn n2 n3 cu ir mi k)) ∧ Below w.heap.size w w' := by
  have HE : Hid (cksV ix gn n2 n3 cu ir mi k = 3) := by
    show _ = _
    unfold cksV isgB
    rw [if_neg (by omega), show decide (0 ≤ cu ∧ cu ≤ 10000) = false from decide_eq_false (by omega)]
    simp
  rw [HE.out]
  have T0 : Hid ((w.alloc (.cells #[.int .i64 ix, .int .i64 gn, .int .i64 n2, .int .i64 n3, .int .i64 cu, .int .i64 ir, .bool mi] 32)).heap[w.heap.size]? = some (.cells #[.int .i64 ix, .int .i64 gn, .int .i64 n2, .int .i64 n3, .int .i64 cu, .int .i64 ir, .bool mi] 32 (0, 0))) := heap_alloc_new w _
  have HB0 : Hid (Below w.heap.size w (w.alloc (.cells #[.int .i64 ix, .int .i64 gn, .int .i64 n2, .int .i64 n3, .int .i64 cu, .int .i64 ir, .bool mi] 32))) := below1 w _
  obtain ⟨⟨c0, c1, c2, c3, c4, c5, c6⟩, _⟩ := seven_of_block T0.out
  have hix0 := ixT0 ix gn n2 n3 cu ir
  have hix1 := ixT1 ix gn n2 n3 cu ir
  have hix2 := ixT2 ix gn n2 n3 cu ir
  have hix3 := ixT3 ix gn n2 n3 cu ir
  have hix4 := ixT4 ix gn n2 n3 cu ir
  have hix5 := ixT5 ix gn n2 n3 cu ir
  go_enter Try.func31, Try.ntmps31
  go_wp2
  refine wp_loop_rounds 8 ?_
  rw [rounds_succ]
  go_wp2
  rw [rounds_succ]
  go_wp2
  rw [rounds_succ]
  go_wp2
  rw [rounds_succ]
  go_wp2
  rw [rounds_succ]
  go_wp2
  refine bodyPost_ret ?_ rfl ⟨rfl, HB0.out⟩
  simp [results, Try.results31, go_sem]
set_option maxHeartbeats 6400000 in
set_option maxRecDepth 1000000 in
theorem rcan_b41 (ix gn n2 n3 cu ir : Int) (mi : Bool) (k : Int) (w : World) (k1' : 2 ≤ k) (k2' : k ≤ 24) (a0 : 0 ≤ ix) (b0 : ix ≤ 10000) (a1 : 0 ≤ gn) (b1 : gn ≤ 10000) (a2 : 0 ≤ n2) (b2 : n2 ≤ 10000) (a3 : 0 ≤ n3) (b3 : n3 ≤ 10000) (h : 10000 < cu) :
    Calls Try.prog 31 #[.agg #[.int .i64 ix, .int .i64 gn, .int .i64 n2, .int .i64 n3, .int .i64 cu, .int .i64 ir, .bool mi], .int .i64 k] w fun e w' => e = .returned (.int .i64 (cksV ix gn n2 n3 cu ir mi k)) ∧ Below w.heap.size w w' := by
  have HE : Hid (cksV ix gn n2 n3 cu ir mi k = 3) := by
    show _ = _
    unfold cksV isgB
    rw [if_neg (by omega), show decide (0 ≤ cu ∧ cu ≤ 10000) = false from decide_eq_false (by omega)]
    simp
  rw [HE.out]
  have T0 : Hid ((w.alloc (.cells #[.int .i64 ix, .int .i64 gn, .int .i64 n2, .int .i64 n3, .int .i64 cu, .int .i64 ir, .bool mi] 32)).heap[w.heap.size]? = some (.cells #[.int .i64 ix, .int .i64 gn, .int .i64 n2, .int .i64 n3, .int .i64 cu, .int .i64 ir, .bool mi] 32 (0, 0))) := heap_alloc_new w _
  have HB0 : Hid (Below w.heap.size w (w.alloc (.cells #[.int .i64 ix, .int .i64 gn, .int .i64 n2, .int .i64 n3, .int .i64 cu, .int .i64 ir, .bool mi] 32))) := below1 w _
  obtain ⟨⟨c0, c1, c2, c3, c4, c5, c6⟩, _⟩ := seven_of_block T0.out
  have hix0 := ixT0 ix gn n2 n3 cu ir
  have hix1 := ixT1 ix gn n2 n3 cu ir
  have hix2 := ixT2 ix gn n2 n3 cu ir
  have hix3 := ixT3 ix gn n2 n3 cu ir
  have hix4 := ixT4 ix gn n2 n3 cu ir
  have hix5 := ixT5 ix gn n2 n3 cu ir
  have g4 : 0 ≤ cu := by omega
  go_enter Try.func31, Try.ntmps31
  go_wp2
  refine wp_loop_rounds 8 ?_
  rw [rounds_succ]
  go_wp2
  rw [rounds_succ]
  go_wp2
  rw [rounds_succ]
  go_wp2
  rw [rounds_succ]
  go_wp2
  rw [rounds_succ]
  go_wp2
  refine bodyPost_ret ?_ rfl ⟨rfl, HB0.out⟩
  simp [results, Try.results31, go_sem]
set_option maxHeartbeats 6400000 in
set_option maxRecDepth 1000000 in
theorem rcan_b50 (ix gn n2 n3 cu ir : Int) (mi : Bool) (k : Int) (w : World) (k1' : 2 ≤ k) (k2' : k ≤ 24) (a0 : 0 ≤ ix) (b0 : ix ≤ 10000) (a1 : 0 ≤ gn) (b1 : gn ≤ 10000) (a2 : 0 ≤ n2) (b2 : n2 ≤ 10000) (a3 : 0 ≤ n3) (b3 : n3 ≤ 10000) (a4 : 0 ≤ cu) (b4 : cu ≤ 10000) (h : ir < 0) :
    Calls Try.prog 31 #[.agg #[.int .i64 ix, .int .i64 gn, .int .i64 n2, .int .i64 n3, .int .i64 cu, .int .i64 ir, .bool mi], .int .i64 k] w fun e w' => e = .returned (.int .i64 (cksV ix gn n2 n3 cu ir mi k)) ∧ Below w.heap.size w w' := by
  have HE : Hid (cksV ix gn n2 n3 cu ir mi k = 3) := by
    show _ = _
    unfold cksV isgB
    rw [if_neg (by omega), show decide (0 ≤ ir ∧ ir ≤ 10000) = false from decide_eq_false (by omega)]
    simp
  rw [HE.out]
  have T0 : Hid ((w.alloc (.cells #[.int .i64 ix, .int .i64 gn, .int .i64 n2, .int .i64 n3, .int .i64 cu, .int .i64 ir, .bool mi] 32)).heap[w.heap.size]? = some (.cells #[.int .i64 ix, .int .i64 gn, .int .i64 n2, .int .i64 n3, .int .i64 cu, .int .i64 ir, .bool mi] 32 (0, 0))) := heap_alloc_new w _
  have HB0 : Hid (Below w.heap.size w (w.alloc (.cells #[.int .i64 ix, .int .i64 gn, .int .i64 n2, .int .i64 n3, .int .i64 cu, .int .i64 ir, .bool mi] 32))) := below1 w _
  obtain ⟨⟨c0, c1, c2, c3, c4, c5, c6⟩, _⟩ := seven_of_block T0.out
  have hix0 := ixT0 ix gn n2 n3 cu ir
  have hix1 := ixT1 ix gn n2 n3 cu ir
  have hix2 := ixT2 ix gn n2 n3 cu ir
  have hix3 := ixT3 ix gn n2 n3 cu ir
  have hix4 := ixT4 ix gn n2 n3 cu ir
  have hix5 := ixT5 ix gn n2 n3 cu ir
  go_enter Try.func31, Try.ntmps31
  go_wp2
  refine wp_loop_rounds 8 ?_
  rw [rounds_succ]
  go_wp2
  rw [rounds_succ]
  go_wp2
  rw [rounds_succ]
  go_wp2
  rw [rounds_succ]
  go_wp2
  rw [rounds_succ]
  go_wp2
  rw [rounds_succ]
  go_wp2
  refine bodyPost_ret ?_ rfl ⟨rfl, HB0.out⟩
  simp [results, Try.results31, go_sem]
set_option maxHeartbeats 6400000 in
set_option maxRecDepth 1000000 in
theorem rcan_b51 (ix gn n2 n3 cu ir : Int) (mi : Bool) (k : Int) (w : World) (k1' : 2 ≤ k) (k2' : k ≤ 24) (a0 : 0 ≤ ix) (b0 : ix ≤ 10000) (a1 : 0 ≤ gn) (b1 : gn ≤ 10000) (a2 : 0 ≤ n2) (b2 : n2 ≤ 10000) (a3 : 0 ≤ n3) (b3 : n3 ≤ 10000) (a4 : 0 ≤ cu) (b4 : cu ≤ 10000) (h : 10000 < ir) :
    Calls Try.prog 31 #[.agg #[.int .i64 ix, .int .i64 gn, .int .i64 n2, .int .i64 n3, .int .i64 cu, .int .i64 ir, .bool mi], .int .i64 k] w fun e w' => e = .returned (.int .i64 (cksV ix gn n2 n3 cu ir mi k)) ∧ Below w.heap.size w w' := by
  have HE : Hid (cksV ix gn n2 n3 cu ir mi k = 3) := by
    show _ = _
    unfold cksV isgB
    rw [if_neg (by omega), show decide (0 ≤ ir ∧ ir ≤ 10000) = false from decide_eq_false (by omega)]
    simp
  rw [HE.out]
  have T0 : Hid ((w.alloc (.cells #[.int .i64 ix, .int .i64 gn, .int .i64 n2, .int .i64 n3, .int .i64 cu, .int .i64 ir, .bool mi] 32)).heap[w.heap.size]? = some (.cells #[.int .i64 ix, .int .i64 gn, .int .i64 n2, .int .i64 n3, .int .i64 cu, .int .i64 ir, .bool mi] 32 (0, 0))) := heap_alloc_new w _
  have HB0 : Hid (Below w.heap.size w (w.alloc (.cells #[.int .i64 ix, .int .i64 gn, .int .i64 n2, .int .i64 n3, .int .i64 cu, .int .i64 ir, .bool mi] 32))) := below1 w _
  obtain ⟨⟨c0, c1, c2, c3, c4, c5, c6⟩, _⟩ := seven_of_block T0.out
  have hix0 := ixT0 ix gn n2 n3 cu ir
  have hix1 := ixT1 ix gn n2 n3 cu ir
  have hix2 := ixT2 ix gn n2 n3 cu ir
  have hix3 := ixT3 ix gn n2 n3 cu ir
  have hix4 := ixT4 ix gn n2 n3 cu ir
  have hix5 := ixT5 ix gn n2 n3 cu ir
  have g5 : 0 ≤ ir := by omega
  go_enter Try.func31, Try.ntmps31
  go_wp2
  refine wp_loop_rounds 8 ?_
  rw [rounds_succ]
  go_wp2
  rw [rounds_succ]
  go_wp2
  rw [rounds_succ]
  go_wp2
  rw [rounds_succ]
  go_wp2
  rw [rounds_succ]
  go_wp2
  rw [rounds_succ]
  go_wp2
  refine bodyPost_ret ?_ rfl ⟨rfl, HB0.out⟩
  simp [results, Try.results31, go_sem]
end Go.Proofs.Ytcgedfmagapnpaa
