/- CuspsEquals answers true for all integers and all cusps. -/
import Derived.Test.YtcjkdcbminpjlaaAwakeL
import Derived.Test.YtcjkdcbminpjlaaREq1L
namespace Go.Proofs.Ytcjkdcbminpjlaa
open Go.RowKit

set_option maxHeartbeats 6400000 in
set_option maxRecDepth 1000000 in
theorem equals_walk (n p q p' q' : Int) (w : World) :
    Calls Try.prog 3 #[.int .i64 n, .agg #[.int .i64 p, .int .i64 q], .agg #[.int .i64 p', .int .i64 q']] w fun e w' => e = .returned (.bool true) ∧ Below w.heap.size w w' := by
  go_enter Try.func3, Try.ntmps3
  go_upto_region 5 with (first
    | (go_at_call 6; ((with_reducible refine (awake_any _).mono ?_); rintro e w1 ⟨rfl, hb⟩; have T4 : Hid (Two w1 w.heap.size p q) := ((Two.at w rfl p q).alloc _).below hb; have T5 : Hid (Two w1 (w.heap.size + 1) p' q') := (Two.at (w.alloc _) (by simp) p' q').below hb; have HB1 : Hid (Below w.heap.size w w1) := (below2 w _ _).trans (hb.mono (by simp; omega)); obtain ⟨c1, c2⟩ := T4.out.cells; obtain ⟨c3, c4⟩ := T5.out.cells; have hz1 := T5.out.lt; have hz0 := T4.out.lt; clear hb))
    | (go_at_call 7; ((with_reducible refine (equal0_any n p q p' q' _).mono ?_); rintro e w2 ⟨t, m1, m2, m3, m4, k, hE, rfl, hb⟩; have HE := Lib.hid hE; have U4 := Lib.hid (T4.out.below hb); have U5 := Lib.hid (T5.out.below hb); have HB2 := Lib.hid (bel0 HB1.out hb); clear hb hE c1 c2 c3 c4; obtain ⟨c1, c2⟩ := U4.out.cells; obtain ⟨c3, c4⟩ := U5.out.cells; have hz3 := U5.out.lt; have hz2 := U4.out.lt))
    | (go_at_call 8; ((with_reducible refine (requal0_any _ HE.out).mono ?_); rintro e w3 ⟨rfl, hb⟩; have V8 : Hid (Four w3 w2.heap.size m1 m2 m3 m4) := (Four.at w2 rfl m1 m2 m3 m4).below hb; have HB3 := Lib.hid (bel1 HB2.out hb); have hz4 := V8.out.lt; have hz5 : w.heap.size ≤ w3.heap.size := HB3.out.size; clear hb c1 c2 c3 c4; obtain ⟨k1, k2, k3, k4⟩ := V8.out.cells))
    | fail)
  go_wp2
  go_ret
  exact ⟨rfl, HB3.out.alloc (by omega) _⟩
end Go.Proofs.Ytcjkdcbminpjlaa
