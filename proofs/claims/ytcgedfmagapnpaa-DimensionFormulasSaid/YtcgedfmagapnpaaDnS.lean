/- The reference's CanSignature and ModularSignature. -/
import Derived.Test.YtcgedfmagapnpaaDnP
import Derived.Test.YtcgedfmagapnpaaDnQ
import Derived.Test.YtcgedfmagapnpaaDnR
namespace Go.Proofs.Ytcgedfmagapnpaa
open Go.RowKit
set_option linter.unusedVariables false
set_option linter.unusedSimpArgs false

theorem rcan_any (ix gn n2 n3 cu ir : Int) (mi : Bool) (k : Int) (w : World) :
    Calls Try.prog 31 #[.agg #[.int .i64 ix, .int .i64 gn, .int .i64 n2, .int .i64 n3, .int .i64 cu, .int .i64 ir, .bool mi], .int .i64 k] w fun e w' => e = .returned (.int .i64 (cksV ix gn n2 n3 cu ir mi k)) ∧ Below w.heap.size w w' := by
  by_cases k1 : k < 2 ∨ 24 < k
  · exact rcan_k _ _ _ _ _ _ _ _ w k1
  have k1' : 2 ≤ k := by omega
  have k2' : k ≤ 24 := by omega
  by_cases l0 : ix < 0
  · exact rcan_b00 _ _ _ _ _ _ _ _ w k1' k2' l0
  by_cases m0 : 10000 < ix
  · exact rcan_b01 _ _ _ _ _ _ _ _ w k1' k2' m0
  have a0 : 0 ≤ ix := by omega
  have b0 : ix ≤ 10000 := by omega
  by_cases l1 : gn < 0
  · exact rcan_b10 _ _ _ _ _ _ _ _ w k1' k2' a0 b0 l1
  by_cases m1 : 10000 < gn
  · exact rcan_b11 _ _ _ _ _ _ _ _ w k1' k2' a0 b0 m1
  have a1 : 0 ≤ gn := by omega
  have b1 : gn ≤ 10000 := by omega
  by_cases l2 : n2 < 0
  · exact rcan_b20 _ _ _ _ _ _ _ _ w k1' k2' a0 b0 a1 b1 l2
  by_cases m2 : 10000 < n2
  · exact rcan_b21 _ _ _ _ _ _ _ _ w k1' k2' a0 b0 a1 b1 m2
  have a2 : 0 ≤ n2 := by omega
  have b2 : n2 ≤ 10000 := by omega
  by_cases l3 : n3 < 0
  · exact rcan_b30 _ _ _ _ _ _ _ _ w k1' k2' a0 b0 a1 b1 a2 b2 l3
  by_cases m3 : 10000 < n3
  · exact rcan_b31 _ _ _ _ _ _ _ _ w k1' k2' a0 b0 a1 b1 a2 b2 m3
  have a3 : 0 ≤ n3 := by omega
  have b3 : n3 ≤ 10000 := by omega
  by_cases l4 : cu < 0
  · exact rcan_b40 _ _ _ _ _ _ _ _ w k1' k2' a0 b0 a1 b1 a2 b2 a3 b3 l4
  by_cases m4 : 10000 < cu
  · exact rcan_b41 _ _ _ _ _ _ _ _ w k1' k2' a0 b0 a1 b1 a2 b2 a3 b3 m4
  have a4 : 0 ≤ cu := by omega
  have b4 : cu ≤ 10000 := by omega
  by_cases l5 : ir < 0
  · exact rcan_b50 _ _ _ _ _ _ _ _ w k1' k2' a0 b0 a1 b1 a2 b2 a3 b3 a4 b4 l5
  by_cases m5 : 10000 < ir
  · exact rcan_b51 _ _ _ _ _ _ _ _ w k1' k2' a0 b0 a1 b1 a2 b2 a3 b3 a4 b4 m5
  have a5 : 0 ≤ ir := by omega
  have b5 : ir ≤ 10000 := by omega
  by_cases p1 : ir ≤ cu
  · cases mi with
    | true => exact rcan_t _ _ _ _ _ _ _ w k1' k2' a0 b0 a1 b1 a2 b2 a3 b3 a4 b4 a5 b5 p1
    | false => exact rcan_f _ _ _ _ _ _ _ w k1' k2' a0 b0 a1 b1 a2 b2 a3 b3 a4 b4 a5 b5 p1
  · exact rcan_i _ _ _ _ _ _ _ _ w k1' k2' a0 b0 a1 b1 a2 b2 a3 b3 a4 b4 a5 b5 p1
set_option maxHeartbeats 3200000 in
set_option maxRecDepth 1000000 in
theorem rms_any (ix gn n2 n3 cu ir : Int) (mi : Bool) (k : Int) (w : World) (h : SgOk ix gn n2 n3 cu ir mi) (k1 : 2 ≤ k) (k2 : k ≤ 24) (hm : k % 2 = 0 ∨ mi = false) :
    Calls Try.prog 33 #[.agg #[.int .i64 ix, .int .i64 gn, .int .i64 n2, .int .i64 n3, .int .i64 cu, .int .i64 ir, .bool mi], .int .i64 k] w fun e w' => e = .returned (.int .i64 (scV gn n2 n3 cu ir k + seV cu ir k)) ∧ Below w.heap.size w w' := by
  have T0 : Hid ((w.alloc (.cells #[.int .i64 ix, .int .i64 gn, .int .i64 n2, .int .i64 n3, .int .i64 cu, .int .i64 ir, .bool mi] 32)).heap[w.heap.size]? = some (.cells #[.int .i64 ix, .int .i64 gn, .int .i64 n2, .int .i64 n3, .int .i64 cu, .int .i64 ir, .bool mi] 32 (0, 0))) := heap_alloc_new w _
  have HB0 : Hid (Below w.heap.size w (w.alloc (.cells #[.int .i64 ix, .int .i64 gn, .int .i64 n2, .int .i64 n3, .int .i64 cu, .int .i64 ir, .bool mi] 32))) := below1 w _
  obtain ⟨⟨c0, c1, c2, c3, c4, c5, c6⟩, _⟩ := seven_of_block T0.out
  have HV := Lib.hid (fun V => rcs_any ix gn n2 n3 cu ir mi k V h k1 k2 hm)
  have b1 := scV_bd h k1 k2
  obtain ⟨r1, r2⟩ := h.fcu
  obtain ⟨s1, s2⟩ := h.fir
  clear h hm
  generalize scV gn n2 n3 cu ir k = x at *
  obtain ⟨b11, b12⟩ := b1
  by_cases h1 : k = 2
  · rw [show seV cu ir k = cu - 1 by unfold seV; rw [if_pos h1]]
    subst h1
    have hs : x + (cu - 1) = x + (cu - 1) := rfl
    go_enter Try.func33, Try.ntmps33
    go_wp2_with (first
      | (go_at_call 32; ((with_reducible refine (HV.out _).mono ?_); rintro e v1 ⟨rfl, hb⟩; have HB1 := Lib.hid (bel0 HB0.out hb); clear hb))
      | fail)
    go_ret
    exact ⟨rfl, HB1.out⟩
  have f1 : (k == 2) = false := by rw [beq_eq_false_iff_ne]; exact h1
  by_cases h2 : k % 2 = 0
  · rw [show seV cu ir k = cu by unfold seV; rw [if_neg h1, if_pos h2]]
    have f2 : (k % 2 != 0) = false := by rw [bne_eq_false_iff_eq]; exact h2
    clear h1 h2
    go_enter Try.func33, Try.ntmps33
    go_wp2_with (first
      | (go_at_call 32; ((with_reducible refine (HV.out _).mono ?_); rintro e v1 ⟨rfl, hb⟩; have HB1 := Lib.hid (bel0 HB0.out hb); clear hb))
      | fail)
    go_ret
    exact ⟨rfl, HB1.out⟩
  · rw [show seV cu ir k = cu - ir by unfold seV; rw [if_neg h1, if_neg h2]]
    have f2 : (k % 2 != 0) = true := by rw [bne_iff_ne]; exact h2
    clear h1 h2
    go_enter Try.func33, Try.ntmps33
    go_wp2_with (first
      | (go_at_call 32; ((with_reducible refine (HV.out _).mono ?_); rintro e v1 ⟨rfl, hb⟩; have HB1 := Lib.hid (bel0 HB0.out hb); clear hb))
      | fail)
    go_ret
    exact ⟨rfl, HB1.out⟩
end Go.Proofs.Ytcgedfmagapnpaa
