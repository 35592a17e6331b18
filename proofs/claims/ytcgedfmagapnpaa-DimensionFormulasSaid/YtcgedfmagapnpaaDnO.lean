/- The reference's CanSignature: weights and the first numbers out of range. -/
import Derived.Test.YtcgedfmagapnpaaDnN
namespace Go.Proofs.Ytcgedfmagapnpaa
open Go.RowKit
set_option linter.unusedVariables false
set_option linter.unusedSimpArgs false

theorem ixT0 (a b c d e f : Int) (w : World) : (Instr.index 70 (.agg #[.int .i64 a, .int .i64 b, .int .i64 c, .int .i64 d, .int .i64 e, .int .i64 f]) (.int .i64 0)).run Try.prog w = .ok (.int .i64 a) w := by
  simp [Instr.index, go_sem]
theorem ixT1 (a b c d e f : Int) (w : World) : (Instr.index 70 (.agg #[.int .i64 a, .int .i64 b, .int .i64 c, .int .i64 d, .int .i64 e, .int .i64 f]) (.int .i64 1)).run Try.prog w = .ok (.int .i64 b) w := by
  simp [Instr.index, go_sem]
theorem ixT2 (a b c d e f : Int) (w : World) : (Instr.index 70 (.agg #[.int .i64 a, .int .i64 b, .int .i64 c, .int .i64 d, .int .i64 e, .int .i64 f]) (.int .i64 2)).run Try.prog w = .ok (.int .i64 c) w := by
  simp [Instr.index, go_sem]
theorem ixT3 (a b c d e f : Int) (w : World) : (Instr.index 70 (.agg #[.int .i64 a, .int .i64 b, .int .i64 c, .int .i64 d, .int .i64 e, .int .i64 f]) (.int .i64 3)).run Try.prog w = .ok (.int .i64 d) w := by
  simp [Instr.index, go_sem]
theorem ixT4 (a b c d e f : Int) (w : World) : (Instr.index 70 (.agg #[.int .i64 a, .int .i64 b, .int .i64 c, .int .i64 d, .int .i64 e, .int .i64 f]) (.int .i64 4)).run Try.prog w = .ok (.int .i64 e) w := by
  simp [Instr.index, go_sem]
theorem ixT5 (a b c d e f : Int) (w : World) : (Instr.index 70 (.agg #[.int .i64 a, .int .i64 b, .int .i64 c, .int .i64 d, .int .i64 e, .int .i64 f]) (.int .i64 5)).run Try.prog w = .ok (.int .i64 f) w := by
  simp [Instr.index, go_sem]
set_option maxHeartbeats 6400000 in
set_option maxRecDepth 1000000 in
theorem rcan_k (ix gn n2 n3 cu ir : Int) (mi : Bool) (k : Int) (w : World) (h : k < 2 ∨ 24 < k) :
    Calls Try.prog 31 #[.agg #[.int .i64 ix, .int .i64 gn, .int .i64 n2, .int .i64 n3, .int .i64 cu, .int .i64 ir, .bool mi], .int .i64 k] w fun e w' => e = .returned (.int .i64 (cksV ix gn n2 n3 cu ir mi k)) ∧ Below w.heap.size w w' := by
  rw [show cksV ix gn n2 n3 cu ir mi k = 2 by unfold cksV; rw [if_pos h]]
  have T0 : Hid ((w.alloc (.cells #[.int .i64 ix, .int .i64 gn, .int .i64 n2, .int .i64 n3, .int .i64 cu, .int .i64 ir, .bool mi] 32)).heap[w.heap.size]? = some (.cells #[.int .i64 ix, .int .i64 gn, .int .i64 n2, .int .i64 n3, .int .i64 cu, .int .i64 ir, .bool mi] 32 (0, 0))) := heap_alloc_new w _
  have HB0 : Hid (Below w.heap.size w (w.alloc (.cells #[.int .i64 ix, .int .i64 gn, .int .i64 n2, .int .i64 n3, .int .i64 cu, .int .i64 ir, .bool mi] 32))) := below1 w _
  obtain ⟨⟨c0, c1, c2, c3, c4, c5, c6⟩, _⟩ := seven_of_block T0.out
  have hix0 := ixT0 ix gn n2 n3 cu ir
  have hix1 := ixT1 ix gn n2 n3 cu ir
  have hix2 := ixT2 ix gn n2 n3 cu ir
  have hix3 := ixT3 ix gn n2 n3 cu ir
  have hix4 := ixT4 ix gn n2 n3 cu ir
  have hix5 := ixT5 ix gn n2 n3 cu ir
  rcases h with h | h
  · go_enter Try.func31, Try.ntmps31
    go_wp2
    refine bodyPost_ret ?_ rfl ⟨rfl, HB0.out⟩
    simp [results, Try.results31, go_sem]
  · have k1' : 2 ≤ k := by omega
    go_enter Try.func31, Try.ntmps31
    go_wp2
    refine bodyPost_ret ?_ rfl ⟨rfl, HB0.out⟩
    simp [results, Try.results31, go_sem]
set_option maxHeartbeats 6400000 in
set_option maxRecDepth 1000000 in
theorem rcan_b00 (ix gn n2 n3 cu ir : Int) (mi : Bool) (k : Int) (w : World) (k1' : 2 ≤ k) (k2' : k ≤ 24)  (h : ix < 0) :
    Calls Try.prog 31 #[.agg #[.int .i64 ix, .int .i64 gn, .int .i64 n2, .int .i64 n3, .int .i64 cu, .int .i64 ir, .bool mi], .int .i64 k] w fun e w' => e = .returned (.int .i64 (cksV ix gn n2 n3 cu ir mi k)) ∧ Below w.heap.size w w' := by
  have HE : Hid (cksV ix gn n2 n3 cu ir mi k = 3) := by
    show _ = _
    unfold cksV isgB
    rw [if_neg (by omega), show decide (0 ≤ ix ∧ ix ≤ 10000) = false from decide_eq_false (by omega)]
    simp
  rw [HE.out]
  have T0 : Hid ((w.alloc (.cells #[.int .i64 ix, .int .i64 gn, .int .i64 n2, .int .i64 n3, .int .i64 cu, .int .i64 ir, .bool mi] 32)).heap[w.heap.size]? = some (.cells #[.int .i64 ix, .int .i64 gn, .int .i64 n2, .int .i64 n3, .int .i64 cu, .int .i64 ir, .bool mi] 32 (0, 0))) := heap_alloc_new w _
  have HB0 : Hid (Below w.heap.size w (w.alloc (.cells #[.int .i64 ix, .int .i64 gn, .int .i64 n2, .int .i64 n3, .int .i64 cu, .int .i64 ir, .bool mi] 32))) := below1 w _
  obtain ⟨⟨c0, c1, c2, c3, c4, c5, c6⟩, _⟩ := seven_of_block T0.out
  have hix0 := ixT0 ix gn n2 n3 cu ir
  have hix1 := ixT1 ix gn n2 n3 cu ir
  have hix2 := ixT2 ix gn n2 n3 cu ir
  have hix3 := ixT3 ix gn n2 n3 cu ir
  have hix4 := ixT4 ix gn n2 n3 cu ir
  have hix5 := ixT5 ix gn n2 n3 cu ir
  go_enter Try.func31, Try.ntmps31
  go_wp2
  refine wp_loop_rounds 8 ?_
  rw [rounds_succ]
  go_wp2
  refine bodyPost_ret ?_ rfl ⟨rfl, HB0.out⟩
  simp [results, Try.results31, go_sem]
set_option maxHeartbeats 6400000 in
set_option maxRecDepth 1000000 in
theorem rcan_b01 (ix gn n2 n3 cu ir : Int) (mi : Bool) (k : Int) (w : World) (k1' : 2 ≤ k) (k2' : k ≤ 24)  (h : 10000 < ix) :
    Calls Try.prog 31 #[.agg #[.int .i64 ix, .int .i64 gn, .int .i64 n2, .int .i64 n3, .int .i64 cu, .int .i64 ir, .bool mi], .int .i64 k] w fun e w' => e = .returned (.int .i64 (cksV ix gn n2 n3 cu ir mi k)) ∧ Below w.heap.size w w' := by
  have HE : Hid (cksV ix gn n2 n3 cu ir mi k = 3) := by
    show _ = _
    unfold cksV isgB
    rw [if_neg (by omega), show decide (0 ≤ ix ∧ ix ≤ 10000) = false from decide_eq_false (by omega)]
    simp
  rw [HE.out]
  have T0 : Hid ((w.alloc (.cells #[.int .i64 ix, .int .i64 gn, .int .i64 n2, .int .i64 n3, .int .i64 cu, .int .i64 ir, .bool mi] 32)).heap[w.heap.size]? = some (.cells #[.int .i64 ix, .int .i64 gn, .int .i64 n2, .int .i64 n3, .int .i64 cu, .int .i64 ir, .bool mi] 32 (0, 0))) := heap_alloc_new w _
  have HB0 : Hid (Below w.heap.size w (w.alloc (.cells #[.int .i64 ix, .int .i64 gn, .int .i64 n2, .int .i64 n3, .int .i64 cu, .int .i64 ir, .bool mi] 32))) := below1 w _
  obtain ⟨⟨c0, c1, c2, c3, c4, c5, c6⟩, _⟩ := seven_of_block T0.out
  have hix0 := ixT0 ix gn n2 n3 cu ir
  have hix1 := ixT1 ix gn n2 n3 cu ir
  have hix2 := ixT2 ix gn n2 n3 cu ir
  have hix3 := ixT3 ix gn n2 n3 cu ir
  have hix4 := ixT4 ix gn n2 n3 cu ir
  have hix5 := ixT5 ix gn n2 n3 cu ir
  have g0 : 0 ≤ ix := by omega
  go_enter Try.func31, Try.ntmps31
  go_wp2
  refine wp_loop_rounds 8 ?_
  rw [rounds_succ]
  go_wp2
  refine bodyPost_ret ?_ rfl ⟨rfl, HB0.out⟩
  simp [results, Try.results31, go_sem]
set_option maxHeartbeats 6400000 in
set_option maxRecDepth 1000000 in
theorem rcan_b10 (ix gn n2 n3 cu ir : Int) (mi : Bool) (k : Int) (w : World) (k1' : 2 ≤ k) (k2' : k ≤ 24) (a0 : 0 ≤ ix) (b0 : ix ≤ 10000) (h : gn < 0) :
    Calls Try.prog 31 #[.agg #[.int .i64 ix, .int .i64 gn, .int .i64 n2, .int .i64 n3, .int .i64 cu, .int .i64 ir, .bool mi], .int .i64 k] w fun e w' => e = .returned (.int .i64 (cksV ix gn n2 n3 cu ir mi k)) ∧ Below w.heap.size w w' := by
  have HE : Hid (cksV ix gn n2 n3 cu ir mi k = 3) := by
    show _ = _
    unfold cksV isgB
    rw [if_neg (by omega), show decide (0 ≤ gn ∧ gn ≤ 10000) = false from decide_eq_false (by omega)]
    simp
  rw [HE.out]
  have T0 : Hid ((w.alloc (.cells #[.int .i64 ix, .int .i64 gn, .int .i64 n2, .int .i64 n3, .int .i64 cu, .int .i64 ir, .bool mi] 32)).heap[w.heap.size]? = some (.cells #[.int .i64 ix, .int .i64 gn, .int .i64 n2, .int .i64 n3, .int .i64 cu, .int .i64 ir, .bool mi] 32 (0, 0))) := heap_alloc_new w _
  have HB0 : Hid (Below w.heap.size w (w.alloc (.cells #[.int .i64 ix, .int .i64 gn, .int .i64 n2, .int .i64 n3, .int .i64 cu, .int .i64 ir, .bool mi] 32))) := below1 w _
  obtain ⟨⟨c0, c1, c2, c3, c4, c5, c6⟩, _⟩ := seven_of_block T0.out
  have hix0 := ixT0 ix gn n2 n3 cu ir
  have hix1 := ixT1 ix gn n2 n3 cu ir
  have hix2 := ixT2 ix gn n2 n3 cu ir
  have hix3 := ixT3 ix gn n2 n3 cu ir
  have hix4 := ixT4 ix gn n2 n3 cu ir
  have hix5 := ixT5 ix gn n2 n3 cu ir
  go_enter Try.func31, Try.ntmps31
  go_wp2
  refine wp_loop_rounds 8 ?_
  rw [rounds_succ]
  go_wp2
  rw [rounds_succ]
  go_wp2
  refine bodyPost_ret ?_ rfl ⟨rfl, HB0.out⟩
  simp [results, Try.results31, go_sem]
set_option maxHeartbeats 6400000 in
set_option maxRecDepth 1000000 in
theorem rcan_b11 (ix gn n2 n3 cu ir : Int) (mi : Bool) (k : Int) (w : World) (k1' : 2 ≤ k) (k2' : k ≤ 24) (a0 : 0 ≤ ix) (b0 : ix ≤ 10000) (h : 10000 < gn) :
    Calls Try.prog 31 #[.agg #[.int .i64 ix, .int .i64 gn, .int .i64 n2, .int .i64 n3, .int .i64 cu, .int .i64 ir, .bool mi], .int .i64 k] w fun e w' => e = .returned (.int .i64 (cksV ix gn n2 n3 cu ir mi k)) ∧ Below w.heap.size w w' := by
  have HE : Hid (cksV ix gn n2 n3 cu ir mi k = 3) := by
    show _ = _
    unfold cksV isgB
    rw [if_neg (by omega), show decide (0 ≤ gn ∧ gn ≤ 10000) = false from decide_eq_false (by omega)]
    simp
  rw [HE.out]
  have T0 : Hid ((w.alloc (.cells #[.int .i64 ix, .int .i64 gn, .int .i64 n2, .int .i64 n3, .int .i64 cu, .int .i64 ir, .bool mi] 32)).heap[w.heap.size]? = some (.cells #[.int .i64 ix, .int .i64 gn, .int .i64 n2, .int .i64 n3, .int .i64 cu, .int .i64 ir, .bool mi] 32 (0, 0))) := heap_alloc_new w _
  have HB0 : Hid (Below w.heap.size w (w.alloc (.cells #[.int .i64 ix, .int .i64 gn, .int .i64 n2, .int .i64 n3, .int .i64 cu, .int .i64 ir, .bool mi] 32))) := below1 w _
  obtain ⟨⟨c0, c1, c2, c3, c4, c5, c6⟩, _⟩ := seven_of_block T0.out
  have hix0 := ixT0 ix gn n2 n3 cu ir
  have hix1 := ixT1 ix gn n2 n3 cu ir
  have hix2 := ixT2 ix gn n2 n3 cu ir
  have hix3 := ixT3 ix gn n2 n3 cu ir
  have hix4 := ixT4 ix gn n2 n3 cu ir
  have hix5 := ixT5 ix gn n2 n3 cu ir
  have g1 : 0 ≤ gn := by omega
  go_enter Try.func31, Try.ntmps31
  go_wp2
  refine wp_loop_rounds 8 ?_
  rw [rounds_succ]
  go_wp2
  rw [rounds_succ]
  go_wp2
  refine bodyPost_ret ?_ rfl ⟨rfl, HB0.out⟩
  simp [results, Try.results31, go_sem]
set_option maxHeartbeats 6400000 in
set_option maxRecDepth 1000000 in
theorem rcan_b20 (ix gn n2 n3 cu ir : Int) (mi : Bool) (k : Int) (w : World) (k1' : 2 ≤ k) (k2' : k ≤ 24) (a0 : 0 ≤ ix) (b0 : ix ≤ 10000) (a1 : 0 ≤ gn) (b1 : gn ≤ 10000) (h : n2 < 0) :
    Calls Try.prog 31 #[.agg #[.int .i64 ix, .int .i64 gn, .int .i64 n2, .int .i64 n3, .int .i64 cu, .int .i64 ir, .bool mi], .int .i64 k] w fun e w' => e = .returned (.int .i64 (cksV ix gn n2 n3 cu ir mi k)) ∧ Below w.heap.size w w' := by
  have HE : Hid (cksV ix gn n2 n3 cu ir mi k = 3) := by
    show _ = _
    unfold cksV isgB
    rw [if_neg (by omega), show decide (0 ≤ n2 ∧ n2 ≤ 10000) = false from decide_eq_false (by omega)]
    simp
  rw [HE.out]
  have T0 : Hid ((w.alloc (.cells #[.int .i64 ix, .int .i64 gn, .int .i64 n2, .int .i64 n3, .int .i64 cu, .int .i64 ir, .bool mi] 32)).heap[w.heap.size]? = some (.cells #[.int .i64 ix, .int .i64 gn, .int .i64 n2, .int .i64 n3, .int .i64 cu, .int .i64 ir, .bool mi] 32 (0, 0))) := heap_alloc_new w _
  have HB0 : Hid (Below w.heap.size w (w.alloc (.cells #[.int .i64 ix, .int .i64 gn, .int .i64 n2, .int .i64 n3, .int .i64 cu, .int .i64 ir, .bool mi] 32))) := below1 w _
  obtain ⟨⟨c0, c1, c2, c3, c4, c5, c6⟩, _⟩ := seven_of_block T0.out
  have hix0 := ixT0 ix gn n2 n3 cu ir
  have hix1 := ixT1 ix gn n2 n3 cu ir
  have hix2 := ixT2 ix gn n2 n3 cu ir
  have hix3 := ixT3 ix gn n2 n3 cu ir
  have hix4 := ixT4 ix gn n2 n3 cu ir
  have hix5 := ixT5 ix gn n2 n3 cu ir
  go_enter Try.func31, Try.ntmps31
  go_wp2
  refine wp_loop_rounds 8 ?_
  rw [rounds_succ]
  go_wp2
  rw [rounds_succ]
  go_wp2
  rw [rounds_succ]
  go_wp2
  refine bodyPost_ret ?_ rfl ⟨rfl, HB0.out⟩
  simp [results, Try.results31, go_sem]
set_option maxHeartbeats 6400000 in
set_option maxRecDepth 1000000 in
theorem rcan_b21 (ix gn n2 n3 cu ir : Int) (mi : Bool) (k : Int) (w : World) (k1' : 2 ≤ k) (k2' : k ≤ 24) (a0 : 0 ≤ ix) (b0 : ix ≤ 10000) (a1 : 0 ≤ gn) (b1 : gn ≤ 10000) (h : 10000 < n2) :
    Calls Try.prog 31 #[.agg #[.int .i64 ix, .int .i64 gn, .int .i64 n2, .int .i64 n3, .int .i64 cu, .int .i64 ir, .bool mi], .int .i64 k] w fun e w' => e = .returned (.int .i64 (cksV ix gn n2 n3 cu ir mi k)) ∧ Below w.heap.size w w' := by
  have HE : Hid (cksV ix gn n2 n3 cu ir mi k = 3) := by
    show _ = _
    unfold cksV isgB
    rw [if_neg (by omega), show decide (0 ≤ n2 ∧ n2 ≤ 10000) = false from decide_eq_false (by omega)]
    simp
  rw [HE.out]
  have T0 : Hid ((w.alloc (.cells #[.int .i64 ix, .int .i64 gn, .int .i64 n2, .int .i64 n3, .int .i64 cu, .int .i64 ir, .bool mi] 32)).heap[w.heap.size]? = some (.cells #[.int .i64 ix, .int .i64 gn, .int .i64 n2, .int .i64 n3, .int .i64 cu, .int .i64 ir, .bool mi] 32 (0, 0))) := heap_alloc_new w _
  have HB0 : Hid (Below w.heap.size w (w.alloc (.cells #[.int .i64 ix, .int .i64 gn, .int .i64 n2, .int .i64 n3, .int .i64 cu, .int .i64 ir, .bool mi] 32))) := below1 w _
  obtain ⟨⟨c0, c1, c2, c3, c4, c5, c6⟩, _⟩ := seven_of_block T0.out
  have hix0 := ixT0 ix gn n2 n3 cu ir
  have hix1 := ixT1 ix gn n2 n3 cu ir
  have hix2 := ixT2 ix gn n2 n3 cu ir
  have hix3 := ixT3 ix gn n2 n3 cu ir
  have hix4 := ixT4 ix gn n2 n3 cu ir
  have hix5 := ixT5 ix gn n2 n3 cu ir
  have g2 : 0 ≤ n2 := by omega
  go_enter Try.func31, Try.ntmps31
  go_wp2
  refine wp_loop_rounds 8 ?_
  rw [rounds_succ]
  go_wp2
  rw [rounds_succ]
  go_wp2
  rw [rounds_succ]
  go_wp2
  refine bodyPost_ret ?_ rfl ⟨rfl, HB0.out⟩
  simp [results, Try.results31, go_sem]
end Go.Proofs.Ytcgedfmagapnpaa
