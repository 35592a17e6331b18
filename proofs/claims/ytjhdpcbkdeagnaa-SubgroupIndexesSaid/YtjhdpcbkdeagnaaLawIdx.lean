/- SubgroupIndexes answers true for all arguments. -/
import Derived.Test.YtjhdpcbkdeagnaaSgF
import Derived.Test.YtjhdpcbkdeagnaaRIdx
import Derived.Test.YtjhdpcbkdeagnaaChkL
namespace Go.Proofs.Ytjhdpcbkdeagnaa
open Go.RowKit
set_option linter.unusedVariables false
set_option linter.unusedSimpArgs false

set_option maxHeartbeats 3200000 in
set_option maxRecDepth 1000000 in
theorem lidx_bad {k n x z y : Int} (w : World) (hz : z ≠ 0) (hy : y = z) (HI0 : ∀ W, Calls Try.prog 19 #[.agg #[.int .i64 k, .int .i64 n]] W fun e w' => e = .returned (.tuple #[.int .i64 x, .int .i64 z]) ∧ Below W.heap.size W w') (HR0 : ∀ W, Calls Try.prog 20 #[.agg #[.int .i64 k, .int .i64 n]] W fun e w' => e = .returned (.tuple #[.int .i64 x, .int .i64 z]) ∧ Below W.heap.size W w') (HO0 : ∀ W, Calls Try.prog 21 #[.agg #[.int .i64 k, .int .i64 n]] W fun e w' => e = .returned (.tuple #[.agg #[.slice none 0 0, .slice none 0 0], .int .i64 y]) ∧ Below W.heap.size W w') :
    Calls Try.prog 5 #[.agg #[.int .i64 k, .int .i64 n]] w fun e w' => e = .returned (.bool true) ∧ Below w.heap.size w w' := by
  subst hy
  have HI := Lib.hid HI0
  have HR := Lib.hid HR0
  have HO := Lib.hid HO0
  have T0 : Hid ((w.alloc (.cells #[.int .i64 k, .int .i64 n] 24)).heap[w.heap.size]? = some (.cells #[.int .i64 k, .int .i64 n] 24 (0, 0))) := heap_alloc_new w _
  have hzb : (y == 0) = false := by simpa using hz
  clear HI0 HR0 HO0
  go_enter Try.func5, Try.ntmps5
  go_wp2_with (first
    | (go_at_call 12; ((with_reducible refine (awake_any _).mono ?_); rintro e w1 ⟨rfl, hb⟩; have HB1 : Hid (Below w.heap.size w w1) := bel1 (Below.refl _ _) hb; have T1 := Lib.hid (block_below T0.out hb); obtain ⟨⟨t1, t2⟩, _⟩ := two_of_block T1.out; clear hb))
    | (go_at_call 19; ((with_reducible refine (HI.out _).mono ?_); rintro e w2 ⟨rfl, hb⟩; have HB2 := Lib.hid (bel0 HB1.out hb); have T2 := Lib.hid (block_below T1.out hb); clear t1 t2; obtain ⟨⟨t1, t2⟩, _⟩ := two_of_block T2.out; clear hb))
    | (go_at_call 20; ((with_reducible refine (HR.out _).mono ?_); rintro e w3 ⟨rfl, hb⟩; have HB3 := Lib.hid (bel0 HB2.out hb); have T3 := Lib.hid (block_below T2.out hb); clear t1 t2; obtain ⟨⟨t1, t2⟩, _⟩ := two_of_block T3.out; clear hb))
    | (go_at_call 21; ((with_reducible refine (HO.out _).mono ?_); rintro e w4 ⟨rfl, hb⟩; have HB4 : Hid (Below w.heap.size w (w4.alloc (.cells #[.slice none 0 0, .slice none 0 0] 47))) := bel0 (bel0 HB3.out hb) (below1 _ _); have X4 : Hid ((w4.alloc (.cells #[.slice none 0 0, .slice none 0 0] 47)).heap[w4.heap.size]? = some (.cells #[.slice none 0 0, .slice none 0 0] 47 (0, 0))) := heap_alloc_new w4 _; obtain ⟨⟨x1, x2⟩, _⟩ := two_of_block X4.out; clear t1 t2 hb))
    | fail)
  go_ret
  exact ⟨rfl, HB4.out⟩
set_option maxHeartbeats 3200000 in
set_option maxRecDepth 1000000 in
theorem lidx_large {k n x z y : Int} (w : World) (hz : z = 0) (hx : 1152 < x) (hy : y = 7) (HI0 : ∀ W, Calls Try.prog 19 #[.agg #[.int .i64 k, .int .i64 n]] W fun e w' => e = .returned (.tuple #[.int .i64 x, .int .i64 z]) ∧ Below W.heap.size W w') (HR0 : ∀ W, Calls Try.prog 20 #[.agg #[.int .i64 k, .int .i64 n]] W fun e w' => e = .returned (.tuple #[.int .i64 x, .int .i64 z]) ∧ Below W.heap.size W w') (HO0 : ∀ W, Calls Try.prog 21 #[.agg #[.int .i64 k, .int .i64 n]] W fun e w' => e = .returned (.tuple #[.agg #[.slice none 0 0, .slice none 0 0], .int .i64 y]) ∧ Below W.heap.size W w') :
    Calls Try.prog 5 #[.agg #[.int .i64 k, .int .i64 n]] w fun e w' => e = .returned (.bool true) ∧ Below w.heap.size w w' := by
  subst hz hy
  have HI := Lib.hid HI0
  have HR := Lib.hid HR0
  have HO := Lib.hid HO0
  have T0 : Hid ((w.alloc (.cells #[.int .i64 k, .int .i64 n] 24)).heap[w.heap.size]? = some (.cells #[.int .i64 k, .int .i64 n] 24 (0, 0))) := heap_alloc_new w _
  have d1 : decide (1152 < x) = true := by simpa using hx
  clear HI0 HR0 HO0
  go_enter Try.func5, Try.ntmps5
  go_wp2_with (first
    | (go_at_call 12; ((with_reducible refine (awake_any _).mono ?_); rintro e w1 ⟨rfl, hb⟩; have HB1 : Hid (Below w.heap.size w w1) := bel1 (Below.refl _ _) hb; have T1 := Lib.hid (block_below T0.out hb); obtain ⟨⟨t1, t2⟩, _⟩ := two_of_block T1.out; clear hb))
    | (go_at_call 19; ((with_reducible refine (HI.out _).mono ?_); rintro e w2 ⟨rfl, hb⟩; have HB2 := Lib.hid (bel0 HB1.out hb); have T2 := Lib.hid (block_below T1.out hb); clear t1 t2; obtain ⟨⟨t1, t2⟩, _⟩ := two_of_block T2.out; clear hb))
    | (go_at_call 20; ((with_reducible refine (HR.out _).mono ?_); rintro e w3 ⟨rfl, hb⟩; have HB3 := Lib.hid (bel0 HB2.out hb); have T3 := Lib.hid (block_below T2.out hb); clear t1 t2; obtain ⟨⟨t1, t2⟩, _⟩ := two_of_block T3.out; clear hb))
    | (go_at_call 21; ((with_reducible refine (HO.out _).mono ?_); rintro e w4 ⟨rfl, hb⟩; have HB4 : Hid (Below w.heap.size w (w4.alloc (.cells #[.slice none 0 0, .slice none 0 0] 47))) := bel0 (bel0 HB3.out hb) (below1 _ _); have X4 : Hid ((w4.alloc (.cells #[.slice none 0 0, .slice none 0 0] 47)).heap[w4.heap.size]? = some (.cells #[.slice none 0 0, .slice none 0 0] 47 (0, 0))) := heap_alloc_new w4 _; obtain ⟨⟨x1, x2⟩, _⟩ := two_of_block X4.out; clear t1 t2 hb))
    | fail)
  go_ret
  exact ⟨rfl, HB4.out⟩
set_option maxHeartbeats 3200000 in
set_option maxRecDepth 1000000 in
theorem lidx_ok {k n x z : Int} {L L' : List Int} (w : World) (hz : z = 0) (hx : x = (L.length : Int)) (hl : L.length ≤ 1152) (HI0 : ∀ W, Calls Try.prog 19 #[.agg #[.int .i64 k, .int .i64 n]] W fun e w' => e = .returned (.tuple #[.int .i64 x, .int .i64 z]) ∧ Below W.heap.size W w') (HR0 : ∀ W, Calls Try.prog 20 #[.agg #[.int .i64 k, .int .i64 n]] W fun e w' => e = .returned (.tuple #[.int .i64 x, .int .i64 z]) ∧ Below W.heap.size W w')
    (HO0 : ∀ W, Calls Try.prog 21 #[.agg #[.int .i64 k, .int .i64 n]] W fun e w' => ∃ AS cS AT cT, e = .returned (.tuple #[.agg #[.slice AS L.length cS, .slice AT L'.length cT], .int .i64 0]) ∧ RdZ w' w'.heap.size AS cS L ∧ RdZ w' w'.heap.size AT cT L' ∧ Below W.heap.size W w')
    (HC0 : ∀ (W : World) (A A' : Option Addr) (c c' : Nat), RdZ W W.heap.size A c L → RdZ W W.heap.size A' c' L' → Calls Try.prog 22 #[.agg #[.slice A L.length c, .slice A' L'.length c']] W fun e w' => e = .returned (.int .i64 0) ∧ Below W.heap.size W w') :
    Calls Try.prog 5 #[.agg #[.int .i64 k, .int .i64 n]] w fun e w' => e = .returned (.bool true) ∧ Below w.heap.size w w' := by
  subst hz hx
  have HI := Lib.hid HI0
  have HR := Lib.hid HR0
  have HO := Lib.hid HO0
  have HC := Lib.hid HC0
  have T0 : Hid ((w.alloc (.cells #[.int .i64 k, .int .i64 n] 24)).heap[w.heap.size]? = some (.cells #[.int .i64 k, .int .i64 n] 24 (0, 0))) := heap_alloc_new w _
  have hl2 : ¬ 1152 < (L.length : Int) := by omega
  have d1 : decide (1152 < (L.length : Int)) = false := by simpa using hl2
  clear HI0 HR0 HO0 HC0
  go_enter Try.func5, Try.ntmps5
  go_wp2_with (first
    | (go_at_call 12; ((with_reducible refine (awake_any _).mono ?_); rintro e w1 ⟨rfl, hb⟩; have HB1 : Hid (Below w.heap.size w w1) := bel1 (Below.refl _ _) hb; have T1 := Lib.hid (block_below T0.out hb); obtain ⟨⟨t1, t2⟩, _⟩ := two_of_block T1.out; clear hb))
    | (go_at_call 19; ((with_reducible refine (HI.out _).mono ?_); rintro e w2 ⟨rfl, hb⟩; have HB2 := Lib.hid (bel0 HB1.out hb); have T2 := Lib.hid (block_below T1.out hb); clear t1 t2; obtain ⟨⟨t1, t2⟩, _⟩ := two_of_block T2.out; clear hb))
    | (go_at_call 20; ((with_reducible refine (HR.out _).mono ?_); rintro e w3 ⟨rfl, hb⟩; have HB3 := Lib.hid (bel0 HB2.out hb); have T3 := Lib.hid (block_below T2.out hb); clear t1 t2; obtain ⟨⟨t1, t2⟩, _⟩ := two_of_block T3.out; clear hb))
    | (go_at_call 21; ((with_reducible refine (HO.out _).mono ?_); rintro e w4 ⟨AS, cS, AT, cT, rfl, d1, d2, hb⟩; have HB4 : Hid (Below w.heap.size w (w4.alloc (.cells #[.slice AS L.length cS, .slice AT L'.length cT] 47))) := bel0 (bel0 HB3.out hb) (below1 _ _); have X4 : Hid ((w4.alloc (.cells #[.slice AS L.length cS, .slice AT L'.length cT] 47)).heap[w4.heap.size]? = some (.cells #[.slice AS L.length cS, .slice AT L'.length cT] 47 (0, 0))) := heap_alloc_new w4 _; have D4 : Hid (RdZ (w4.alloc (.cells #[.slice AS L.length cS, .slice AT L'.length cT] 47)) (w4.alloc (.cells #[.slice AS L.length cS, .slice AT L'.length cT] 47)).heap.size AS cS L ∧ RdZ (w4.alloc (.cells #[.slice AS L.length cS, .slice AT L'.length cT] 47)) (w4.alloc (.cells #[.slice AS L.length cS, .slice AT L'.length cT] 47)).heap.size AT cT L') := ⟨(d1.below (below1 w4 (.cells #[.slice AS L.length cS, .slice AT L'.length cT] 47))).mono (below1 w4 (.cells #[.slice AS L.length cS, .slice AT L'.length cT] 47)).size, (d2.below (below1 w4 (.cells #[.slice AS L.length cS, .slice AT L'.length cT] 47))).mono (below1 w4 (.cells #[.slice AS L.length cS, .slice AT L'.length cT] 47)).size⟩; obtain ⟨⟨x1, x2⟩, _⟩ := two_of_block X4.out; clear t1 t2 hb d1 d2))
    | (go_at_call 22; ((with_reducible refine (HC.out _ _ _ _ _ D4.out.1 D4.out.2).mono ?_); rintro e w5 ⟨rfl, hb⟩; have HB5 := Lib.hid (bel0 HB4.out hb); clear hb x1 x2))
    | fail)
  go_ret
  exact ⟨rfl, HB5.out⟩
theorem lidx_walk (k n : Int) (w : World) :
    Calls Try.prog 5 #[.agg #[.int .i64 k, .int .i64 n]] w fun e w' => e = .returned (.bool true) ∧ Below w.heap.size w w' := by
  have HI := fun W => index_any k n W
  have HR := fun W => rindex_any k n W
  by_cases hg : gckI k n = 0
  · by_cases hx : 1152 < idxI k n
    · have hc : ckxI k n = 7 := by unfold ckxI; rw [if_pos hg, if_pos hx]
      exact lidx_large w hg hx hc HI HR fun W => of_err (by rw [hc]; decide) W
    · have hc : ckxI k n = 0 := by unfold ckxI; rw [if_pos hg, if_neg hx]
      have ha := ol_act hc
      have hi : idxI k n = ((olS k n).length : Int) := by rw [ol_len.1]; exact if_pos hg
      exact lidx_ok w hg hi (by omega) HI HR (fun W => of_ok hc W) fun W A A' c c' h1 h2 => by
        have := pcheck_any W h1 h2 (Nat.le_refl _)
        rwa [chkA_ok ha] at this
  · have hc : ckxI k n = gckI k n := if_neg hg
    exact lidx_bad w hg hc HI HR fun W => of_err (by rw [hc]; exact hg) W
end Go.Proofs.Ytjhdpcbkdeagnaa
