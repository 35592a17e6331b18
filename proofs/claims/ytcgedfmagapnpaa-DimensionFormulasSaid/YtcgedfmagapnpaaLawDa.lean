/- The statements of layer 31 without characters: the guard, DimensionChecks, DimensionSpaces. -/
import Derived.Test.YtcgedfmagapnpaaDnN
namespace Go.Proofs.Ytcgedfmagapnpaa
open Go.RowKit
set_option linter.unusedVariables false
set_option linter.unusedSimpArgs false

set_option maxRecDepth 100000 in
theorem aw1 : ckV ((23 : Nat) : Int) ((3 : Nat) : Int) (-23) = 0 ∧ cpV 23 3 (-23) = 3 := by decide +kernel
set_option maxRecDepth 100000 in
theorem aw2 : ckV ((22 : Nat) : Int) ((2 : Nat) : Int) 1 = 0 ∧ nwV 22 2 1 = 0 := by decide +kernel
set_option maxRecDepth 100000 in
theorem aw3 : ckV 11 2 1 = 0 ∧ (2 * (psV (Int.toNat 11) : Int)) / 12 = 2 := by decide +kernel
theorem aw4 : cksV 6 0 0 0 3 1 false 3 = 0 ∧ scV 0 0 0 3 1 3 + seV 3 1 3 = 2 := by decide +kernel
set_option maxHeartbeats 3200000 in
set_option maxRecDepth 1000000 in
theorem awake_any (w : World) : Calls Try.prog 11 #[] w fun e w' => e = .returned (.bool true) ∧ Below w.heap.size w w' := by
  have H1 : Hid (∀ V, Calls Try.prog 16 #[.agg #[.int .i64 23, .int .i64 3, .int .i64 (-23)]] V fun e w' => e = .returned (.tuple #[.int .i64 3, .int .i64 0]) ∧ Below V.heap.size V w') := fun V => by
    have := cusp_ok 23 3 (-23) V aw1.1
    rw [aw1.2] at this
    exact this
  have H2 : Hid (∀ V, Calls Try.prog 19 #[.agg #[.int .i64 22, .int .i64 2, .int .i64 1]] V fun e w' => e = .returned (.tuple #[.int .i64 0, .int .i64 0]) ∧ Below V.heap.size V w') := fun V => by
    have := new_ok 22 2 1 V aw2.1
    rw [aw2.2] at this
    exact this
  have H3 : Hid (∀ V, Calls Try.prog 13 #[.agg #[.int .i64 11, .int .i64 2, .int .i64 1]] V fun e w' => e = .returned (.tuple #[.int .i64 2, .int .i64 0]) ∧ Below V.heap.size V w') := fun V => by
    have := sturm_any 11 2 1 V
    rw [aw3.1, if_pos rfl, aw3.2] at this
    exact this
  have H4 : Hid (∀ V, Calls Try.prog 30 #[.agg #[.int .i64 6, .int .i64 0, .int .i64 0, .int .i64 0, .int .i64 3, .int .i64 1, .bool false], .int .i64 3] V fun e w' => e = .returned (.tuple #[.int .i64 2, .int .i64 0]) ∧ Below V.heap.size V w') := fun V => by
    have := msig_ok 6 0 0 0 3 1 false 3 V aw4.1
    rw [aw4.2] at this
    exact this
  go_enter Try.func11, Try.ntmps11
  go_wp2_with (first
    | (go_at_call 16; ((with_reducible refine (H1.out _).mono ?_); rintro e v1 ⟨rfl, hb⟩; have HB1 := Lib.hid hb; clear hb))
    | (go_at_call 19; ((with_reducible refine (H2.out _).mono ?_); rintro e v2 ⟨rfl, hb⟩; have HB2 := Lib.hid (bel0 HB1.out hb); clear hb))
    | (go_at_call 13; ((with_reducible refine (H3.out _).mono ?_); rintro e v3 ⟨rfl, hb⟩; have HB3 := Lib.hid (bel0 HB2.out hb); clear hb))
    | (go_at_call 30; ((with_reducible refine (H4.out _).mono ?_); rintro e v4 ⟨rfl, hb⟩; have HB4 := Lib.hid (bel0 HB3.out hb); clear hb))
    | fail)
  go_ret
  exact ⟨rfl, HB4.out⟩
set_option maxHeartbeats 3200000 in
set_option maxRecDepth 1000000 in
theorem dck_walk (N W D : Int) (w : World) : Calls Try.prog 3 #[.agg #[.int .i64 N, .int .i64 W, .int .i64 D]] w fun e w' => e = .returned (.bool true) ∧ Below w.heap.size w w' := by
  have T0 : Hid ((w.alloc (.cells #[.int .i64 N, .int .i64 W, .int .i64 D] 23)).heap[w.heap.size]? = some (.cells #[.int .i64 N, .int .i64 W, .int .i64 D] 23 (0, 0))) := heap_alloc_new w _
  have HB0 : Hid (Below w.heap.size w (w.alloc (.cells #[.int .i64 N, .int .i64 W, .int .i64 D] 23))) := below1 w _
  obtain ⟨⟨c0, c1, c2⟩, _⟩ := three_of_blockD T0.out
  have HA := Lib.hid awake_any
  have HR := Lib.hid (fun V => rcheck_any N W D V)
  have HS := Lib.hid (fun V => sturm_any N W D V)
  have HC := Lib.hid (fun V => check_any N W D V)
  by_cases h : ckV N W D = 0
  · obtain ⟨⟨n1, n2⟩, ⟨w1, w2⟩, _⟩ := ckV_ok h
    rw [if_pos h] at HS
    rw [h] at HR HS HC
    have HT : Hid (∀ V, Calls Try.prog 15 #[.agg #[.int .i64 N, .int .i64 W, .int .i64 D]] V fun e w' => e = .returned (.int .i64 ((W * (psV N.toNat : Int)) / 12)) ∧ Below V.heap.size V w') := fun V => by
      have := rsturm_any N.toNat W D V (by omega) (by omega) w1 w2
      rwa [show ((N.toNat : Nat) : Int) = N by omega] at this
    clear h
    generalize (W * (psV N.toNat : Int)) / 12 = z at *
    go_enter Try.func3, Try.ntmps3
    go_wp2_with (first
      | (go_at_call 11; ((with_reducible refine (HA.out _).mono ?_); rintro e v1 ⟨rfl, hb⟩; have HB1 := Lib.hid (bel0 HB0.out hb); have T1 := Lib.hid (block_below T0.out hb); clear c0 c1 c2; obtain ⟨⟨c0, c1, c2⟩, _⟩ := three_of_blockD T1.out; clear hb))
      | (go_at_call 12; ((with_reducible refine (HR.out _).mono ?_); rintro e v2 ⟨rfl, hb⟩; have HB2 := Lib.hid (bel0 HB1.out hb); have T2 := Lib.hid (block_below T1.out hb); clear c0 c1 c2; obtain ⟨⟨c0, c1, c2⟩, _⟩ := three_of_blockD T2.out; clear hb))
      | (go_at_call 13; ((with_reducible refine (HS.out _).mono ?_); rintro e v3 ⟨rfl, hb⟩; have HB3 := Lib.hid (bel0 HB2.out hb); have T3 := Lib.hid (block_below T2.out hb); clear c0 c1 c2; obtain ⟨⟨c0, c1, c2⟩, _⟩ := three_of_blockD T3.out; clear hb))
      | (go_at_call 14; ((with_reducible refine (HC.out _).mono ?_); rintro e v4 ⟨rfl, hb⟩; have HB4 := Lib.hid (bel0 HB3.out hb); have T4 := Lib.hid (block_below T3.out hb); clear c0 c1 c2; obtain ⟨⟨c0, c1, c2⟩, _⟩ := three_of_blockD T4.out; clear hb))
      | (go_at_call 15; ((with_reducible refine (HT.out _).mono ?_); rintro e v5 ⟨rfl, hb⟩; have HB5 := Lib.hid (bel0 HB4.out hb); have T5 := Lib.hid (block_below T4.out hb); clear c0 c1 c2; obtain ⟨⟨c0, c1, c2⟩, _⟩ := three_of_blockD T5.out; clear hb))
      | fail)
    go_ret
    exact ⟨rfl, HB5.out⟩
  · rw [if_neg h] at HS
    have hk1 : (ckV N W D != 0) = true := by rw [bne_iff_ne]; exact h
    clear h
    generalize ckV N W D = k at *
    go_enter Try.func3, Try.ntmps3
    go_wp2_with (first
      | (go_at_call 11; ((with_reducible refine (HA.out _).mono ?_); rintro e v1 ⟨rfl, hb⟩; have HB1 := Lib.hid (bel0 HB0.out hb); have T1 := Lib.hid (block_below T0.out hb); clear c0 c1 c2; obtain ⟨⟨c0, c1, c2⟩, _⟩ := three_of_blockD T1.out; clear hb))
      | (go_at_call 12; ((with_reducible refine (HR.out _).mono ?_); rintro e v2 ⟨rfl, hb⟩; have HB2 := Lib.hid (bel0 HB1.out hb); have T2 := Lib.hid (block_below T1.out hb); clear c0 c1 c2; obtain ⟨⟨c0, c1, c2⟩, _⟩ := three_of_blockD T2.out; clear hb))
      | (go_at_call 13; ((with_reducible refine (HS.out _).mono ?_); rintro e v3 ⟨rfl, hb⟩; have HB3 := Lib.hid (bel0 HB2.out hb); have T3 := Lib.hid (block_below T2.out hb); clear c0 c1 c2; obtain ⟨⟨c0, c1, c2⟩, _⟩ := three_of_blockD T3.out; clear hb))
      | (go_at_call 14; ((with_reducible refine (HC.out _).mono ?_); rintro e v4 ⟨rfl, hb⟩; have HB4 := Lib.hid (bel0 HB3.out hb); have T4 := Lib.hid (block_below T3.out hb); clear c0 c1 c2; obtain ⟨⟨c0, c1, c2⟩, _⟩ := three_of_blockD T4.out; clear hb))
      | fail)
    go_ret
    exact ⟨rfl, HB4.out⟩
set_option maxHeartbeats 6400000 in
set_option maxRecDepth 1000000 in
theorem dsp_walk (N W D : Int) (w : World) : Calls Try.prog 4 #[.agg #[.int .i64 N, .int .i64 W, .int .i64 D]] w fun e w' => e = .returned (.bool true) ∧ Below w.heap.size w w' := by
  have HA := Lib.hid awake_any
  have HR := Lib.hid (fun V => rcheck_any N W D V)
  by_cases h : ckV N W D = 0
  · obtain ⟨⟨n1, n2⟩, ⟨w1, w2⟩, _⟩ := ckV_ok h
    obtain ⟨n, rfl⟩ : ∃ n : Nat, N = n := ⟨N.toNat, by omega⟩
    obtain ⟨k, rfl⟩ : ∃ k : Nat, W = k := ⟨W.toNat, by omega⟩
    have hl := ckV_ld h
    have H1 := Lib.hid (fun V => cusp_ok n k D V h)
    have H2 := Lib.hid (fun V => eis_ok n k D V h)
    have H3 := Lib.hid (fun V => mod_ok n k D V h)
    have H4 := Lib.hid (fun V => new_ok n k D V h)
    have R1 := Lib.hid (fun V => rcusp_any n k D V hl w1 w2)
    have R2 := Lib.hid (fun V => reis_any n k D V hl w1 w2)
    have R4 := Lib.hid (fun V => rnew_any n k D V hl w1 w2)
    have b1 := cp_bd (k := k) hl (by omega) (by omega)
    have b2 := ei_bd (k := k) hl
    rw [h] at HR
    clear h hl
    generalize cpV n k D = a at *
    generalize eiV n k D = b at *
    generalize nwV n k D = d at *
    have T0 : Hid ((w.alloc (.cells #[.int .i64 (n : Int), .int .i64 (k : Int), .int .i64 D] 23)).heap[w.heap.size]? = some (.cells #[.int .i64 (n : Int), .int .i64 (k : Int), .int .i64 D] 23 (0, 0))) := heap_alloc_new w _
    have HB0 : Hid (Below w.heap.size w (w.alloc (.cells #[.int .i64 (n : Int), .int .i64 (k : Int), .int .i64 D] 23))) := below1 w _
    obtain ⟨⟨c0, c1, c2⟩, _⟩ := three_of_blockD T0.out
    go_enter Try.func4, Try.ntmps4
    go_wp2_with (first
      | (go_at_call 11; ((with_reducible refine (HA.out _).mono ?_); rintro e v1 ⟨rfl, hb⟩; have HB1 := Lib.hid (bel0 HB0.out hb); have T1 := Lib.hid (block_below T0.out hb); clear c0 c1 c2; obtain ⟨⟨c0, c1, c2⟩, _⟩ := three_of_blockD T1.out; clear hb))
      | (go_at_call 16; ((with_reducible refine (H1.out _).mono ?_); rintro e v2 ⟨rfl, hb⟩; have HB2 := Lib.hid (bel0 HB1.out hb); have T2 := Lib.hid (block_below T1.out hb); clear c0 c1 c2; obtain ⟨⟨c0, c1, c2⟩, _⟩ := three_of_blockD T2.out; clear hb))
      | (go_at_call 17; ((with_reducible refine (H2.out _).mono ?_); rintro e v3 ⟨rfl, hb⟩; have HB3 := Lib.hid (bel0 HB2.out hb); have T3 := Lib.hid (block_below T2.out hb); clear c0 c1 c2; obtain ⟨⟨c0, c1, c2⟩, _⟩ := three_of_blockD T3.out; clear hb))
      | (go_at_call 18; ((with_reducible refine (H3.out _).mono ?_); rintro e v4 ⟨rfl, hb⟩; have HB4 := Lib.hid (bel0 HB3.out hb); have T4 := Lib.hid (block_below T3.out hb); clear c0 c1 c2; obtain ⟨⟨c0, c1, c2⟩, _⟩ := three_of_blockD T4.out; clear hb))
      | (go_at_call 19; ((with_reducible refine (H4.out _).mono ?_); rintro e v5 ⟨rfl, hb⟩; have HB5 := Lib.hid (bel0 HB4.out hb); have T5 := Lib.hid (block_below T4.out hb); clear c0 c1 c2; obtain ⟨⟨c0, c1, c2⟩, _⟩ := three_of_blockD T5.out; clear hb))
      | (go_at_call 12; ((with_reducible refine (HR.out _).mono ?_); rintro e v6 ⟨rfl, hb⟩; have HB6 := Lib.hid (bel0 HB5.out hb); have T6 := Lib.hid (block_below T5.out hb); clear c0 c1 c2; obtain ⟨⟨c0, c1, c2⟩, _⟩ := three_of_blockD T6.out; clear hb))
      | (go_at_call 20; ((with_reducible refine (R1.out _).mono ?_); rintro e v7 ⟨rfl, hb⟩; have HB7 := Lib.hid (bel0 HB6.out hb); have T7 := Lib.hid (block_below T6.out hb); clear c0 c1 c2; obtain ⟨⟨c0, c1, c2⟩, _⟩ := three_of_blockD T7.out; clear hb))
      | (go_at_call 21; ((with_reducible refine (R2.out _).mono ?_); rintro e v8 ⟨rfl, hb⟩; have HB8 := Lib.hid (bel0 HB7.out hb); have T8 := Lib.hid (block_below T7.out hb); clear c0 c1 c2; obtain ⟨⟨c0, c1, c2⟩, _⟩ := three_of_blockD T8.out; clear hb))
      | (go_at_call 22; ((with_reducible refine (R4.out _).mono ?_); rintro e v9 ⟨rfl, hb⟩; have HB9 := Lib.hid (bel0 HB8.out hb); have T9 := Lib.hid (block_below T8.out hb); clear c0 c1 c2; obtain ⟨⟨c0, c1, c2⟩, _⟩ := three_of_blockD T9.out; clear hb))
      | fail)
    go_ret
    exact ⟨rfl, HB9.out⟩
  · have H1 := Lib.hid (fun V => cusp_bad N W D V h)
    have H2 := Lib.hid (fun V => eis_bad N W D V h)
    have H3 := Lib.hid (fun V => mod_bad N W D V h)
    have H4 := Lib.hid (fun V => new_bad N W D V h)
    have hk1 : (ckV N W D != 0) = true := by rw [bne_iff_ne]; exact h
    clear h
    generalize ckV N W D = k at *
    have T0 : Hid ((w.alloc (.cells #[.int .i64 N, .int .i64 W, .int .i64 D] 23)).heap[w.heap.size]? = some (.cells #[.int .i64 N, .int .i64 W, .int .i64 D] 23 (0, 0))) := heap_alloc_new w _
    have HB0 : Hid (Below w.heap.size w (w.alloc (.cells #[.int .i64 N, .int .i64 W, .int .i64 D] 23))) := below1 w _
    obtain ⟨⟨c0, c1, c2⟩, _⟩ := three_of_blockD T0.out
    go_enter Try.func4, Try.ntmps4
    go_wp2_with (first
      | (go_at_call 11; ((with_reducible refine (HA.out _).mono ?_); rintro e v1 ⟨rfl, hb⟩; have HB1 := Lib.hid (bel0 HB0.out hb); have T1 := Lib.hid (block_below T0.out hb); clear c0 c1 c2; obtain ⟨⟨c0, c1, c2⟩, _⟩ := three_of_blockD T1.out; clear hb))
      | (go_at_call 16; ((with_reducible refine (H1.out _).mono ?_); rintro e v2 ⟨rfl, hb⟩; have HB2 := Lib.hid (bel0 HB1.out hb); have T2 := Lib.hid (block_below T1.out hb); clear c0 c1 c2; obtain ⟨⟨c0, c1, c2⟩, _⟩ := three_of_blockD T2.out; clear hb))
      | (go_at_call 17; ((with_reducible refine (H2.out _).mono ?_); rintro e v3 ⟨rfl, hb⟩; have HB3 := Lib.hid (bel0 HB2.out hb); have T3 := Lib.hid (block_below T2.out hb); clear c0 c1 c2; obtain ⟨⟨c0, c1, c2⟩, _⟩ := three_of_blockD T3.out; clear hb))
      | (go_at_call 18; ((with_reducible refine (H3.out _).mono ?_); rintro e v4 ⟨rfl, hb⟩; have HB4 := Lib.hid (bel0 HB3.out hb); have T4 := Lib.hid (block_below T3.out hb); clear c0 c1 c2; obtain ⟨⟨c0, c1, c2⟩, _⟩ := three_of_blockD T4.out; clear hb))
      | (go_at_call 19; ((with_reducible refine (H4.out _).mono ?_); rintro e v5 ⟨rfl, hb⟩; have HB5 := Lib.hid (bel0 HB4.out hb); have T5 := Lib.hid (block_below T4.out hb); clear c0 c1 c2; obtain ⟨⟨c0, c1, c2⟩, _⟩ := three_of_blockD T5.out; clear hb))
      | (go_at_call 12; ((with_reducible refine (HR.out _).mono ?_); rintro e v6 ⟨rfl, hb⟩; have HB6 := Lib.hid (bel0 HB5.out hb); have T6 := Lib.hid (block_below T5.out hb); clear c0 c1 c2; obtain ⟨⟨c0, c1, c2⟩, _⟩ := three_of_blockD T6.out; clear hb))
      | fail)
    go_ret
    exact ⟨rfl, HB6.out⟩
end Go.Proofs.Ytcgedfmagapnpaa
