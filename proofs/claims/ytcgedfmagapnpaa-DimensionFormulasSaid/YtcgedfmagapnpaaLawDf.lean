/- DimensionFormulas: the dimensions of a signature are those of the reference. -/
import Derived.Test.YtcgedfmagapnpaaLawDa
import Derived.Test.YtcgedfmagapnpaaDnS
namespace Go.Proofs.Ytcgedfmagapnpaa
open Go.RowKit
set_option linter.unusedVariables false
set_option linter.unusedSimpArgs false

set_option maxHeartbeats 6400000 in
set_option maxRecDepth 1000000 in
theorem dfo_walk (ix gn n2 n3 cu ir : Int) (mi : Bool) (k : Int) (w : World) : Calls Try.prog 8 #[.agg #[.int .i64 ix, .int .i64 gn, .int .i64 n2, .int .i64 n3, .int .i64 cu, .int .i64 ir, .bool mi], .int .i64 k] w fun e w' => e = .returned (.bool true) ∧ Below w.heap.size w w' := by
  have T0 : Hid ((w.alloc (.cells #[.int .i64 ix, .int .i64 gn, .int .i64 n2, .int .i64 n3, .int .i64 cu, .int .i64 ir, .bool mi] 32)).heap[w.heap.size]? = some (.cells #[.int .i64 ix, .int .i64 gn, .int .i64 n2, .int .i64 n3, .int .i64 cu, .int .i64 ir, .bool mi] 32 (0, 0))) := heap_alloc_new w _
  have HB0 : Hid (Below w.heap.size w (w.alloc (.cells #[.int .i64 ix, .int .i64 gn, .int .i64 n2, .int .i64 n3, .int .i64 cu, .int .i64 ir, .bool mi] 32))) := below1 w _
  obtain ⟨⟨c0, c1, c2, c3, c4, c5, c6⟩, _⟩ := seven_of_block T0.out
  have HA := Lib.hid awake_any
  have HC := Lib.hid (fun V => rcan_any ix gn n2 n3 cu ir mi k V)
  by_cases h : cksV ix gn n2 n3 cu ir mi k = 0
  · obtain ⟨⟨k1, k2⟩, hs, hm⟩ := cksV_ok h
    have H1 := Lib.hid (fun V => csig_ok ix gn n2 n3 cu ir mi k V h)
    have H2 := Lib.hid (fun V => msig_ok ix gn n2 n3 cu ir mi k V h)
    have R1 := Lib.hid (fun V => rcs_any ix gn n2 n3 cu ir mi k V hs k1 k2 hm)
    have R2 := Lib.hid (fun V => rms_any ix gn n2 n3 cu ir mi k V hs k1 k2 hm)
    rw [h] at HC
    clear h hs hm
    generalize scV gn n2 n3 cu ir k = x at *
    generalize seV cu ir k = y at *
    go_enter Try.func8, Try.ntmps8
    go_wp2_with (first
      | (go_at_call 11; ((with_reducible refine (HA.out _).mono ?_); rintro e v1 ⟨rfl, hb⟩; have HB1 := Lib.hid (bel0 HB0.out hb); have T1 := Lib.hid (block_below T0.out hb); clear c0 c1 c2 c3 c4 c5 c6; obtain ⟨⟨c0, c1, c2, c3, c4, c5, c6⟩, _⟩ := seven_of_block T1.out; clear hb))
      | (go_at_call 29; ((with_reducible refine (H1.out _).mono ?_); rintro e v2 ⟨rfl, hb⟩; have HB2 := Lib.hid (bel0 HB1.out hb); have T2 := Lib.hid (block_below T1.out hb); clear c0 c1 c2 c3 c4 c5 c6; obtain ⟨⟨c0, c1, c2, c3, c4, c5, c6⟩, _⟩ := seven_of_block T2.out; clear hb))
      | (go_at_call 30; ((with_reducible refine (H2.out _).mono ?_); rintro e v3 ⟨rfl, hb⟩; have HB3 := Lib.hid (bel0 HB2.out hb); have T3 := Lib.hid (block_below T2.out hb); clear c0 c1 c2 c3 c4 c5 c6; obtain ⟨⟨c0, c1, c2, c3, c4, c5, c6⟩, _⟩ := seven_of_block T3.out; clear hb))
      | (go_at_call 31; ((with_reducible refine (HC.out _).mono ?_); rintro e v4 ⟨rfl, hb⟩; have HB4 := Lib.hid (bel0 HB3.out hb); have T4 := Lib.hid (block_below T3.out hb); clear c0 c1 c2 c3 c4 c5 c6; obtain ⟨⟨c0, c1, c2, c3, c4, c5, c6⟩, _⟩ := seven_of_block T4.out; clear hb))
      | (go_at_call 32; ((with_reducible refine (R1.out _).mono ?_); rintro e v5 ⟨rfl, hb⟩; have HB5 := Lib.hid (bel0 HB4.out hb); have T5 := Lib.hid (block_below T4.out hb); clear c0 c1 c2 c3 c4 c5 c6; obtain ⟨⟨c0, c1, c2, c3, c4, c5, c6⟩, _⟩ := seven_of_block T5.out; clear hb))
      | (go_at_call 33; ((with_reducible refine (R2.out _).mono ?_); rintro e v6 ⟨rfl, hb⟩; have HB6 := Lib.hid (bel0 HB5.out hb); have T6 := Lib.hid (block_below T5.out hb); clear c0 c1 c2 c3 c4 c5 c6; obtain ⟨⟨c0, c1, c2, c3, c4, c5, c6⟩, _⟩ := seven_of_block T6.out; clear hb))
      | fail)
    go_ret
    exact ⟨rfl, HB6.out⟩
  · have H1 := Lib.hid (fun V => csig_bad ix gn n2 n3 cu ir mi k V h)
    have H2 := Lib.hid (fun V => msig_bad ix gn n2 n3 cu ir mi k V h)
    have hk1 : (cksV ix gn n2 n3 cu ir mi k != 0) = true := by rw [bne_iff_ne]; exact h
    clear h
    generalize cksV ix gn n2 n3 cu ir mi k = z at *
    go_enter Try.func8, Try.ntmps8
    go_wp2_with (first
      | (go_at_call 11; ((with_reducible refine (HA.out _).mono ?_); rintro e v1 ⟨rfl, hb⟩; have HB1 := Lib.hid (bel0 HB0.out hb); have T1 := Lib.hid (block_below T0.out hb); clear c0 c1 c2 c3 c4 c5 c6; obtain ⟨⟨c0, c1, c2, c3, c4, c5, c6⟩, _⟩ := seven_of_block T1.out; clear hb))
      | (go_at_call 29; ((with_reducible refine (H1.out _).mono ?_); rintro e v2 ⟨rfl, hb⟩; have HB2 := Lib.hid (bel0 HB1.out hb); have T2 := Lib.hid (block_below T1.out hb); clear c0 c1 c2 c3 c4 c5 c6; obtain ⟨⟨c0, c1, c2, c3, c4, c5, c6⟩, _⟩ := seven_of_block T2.out; clear hb))
      | (go_at_call 30; ((with_reducible refine (H2.out _).mono ?_); rintro e v3 ⟨rfl, hb⟩; have HB3 := Lib.hid (bel0 HB2.out hb); have T3 := Lib.hid (block_below T2.out hb); clear c0 c1 c2 c3 c4 c5 c6; obtain ⟨⟨c0, c1, c2, c3, c4, c5, c6⟩, _⟩ := seven_of_block T3.out; clear hb))
      | (go_at_call 31; ((with_reducible refine (HC.out _).mono ?_); rintro e v4 ⟨rfl, hb⟩; have HB4 := Lib.hid (bel0 HB3.out hb); have T4 := Lib.hid (block_below T3.out hb); clear c0 c1 c2 c3 c4 c5 c6; obtain ⟨⟨c0, c1, c2, c3, c4, c5, c6⟩, _⟩ := seven_of_block T4.out; clear hb))
      | fail)
    go_ret
    exact ⟨rfl, HB4.out⟩
end Go.Proofs.Ytcgedfmagapnpaa
