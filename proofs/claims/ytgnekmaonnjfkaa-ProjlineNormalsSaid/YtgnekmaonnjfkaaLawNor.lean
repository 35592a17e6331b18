/- ProjlineNormals answers true for all integers. -/
import Derived.Test.YtgnekmaonnjfkaaAwakeL
import Derived.Test.YtgnekmaonnjfkaaRNorL
namespace Go.Proofs.Ytgnekmaonnjfkaa
open Go.RowKit
set_option linter.unusedVariables false

theorem rnormal_at {n c d U V T k : Int} (w : World) (h : NorE n c d U V T k) : Calls Try.prog 14 #[.int .i64 n, .int .i64 c, .int .i64 d] w fun e w' => e = .returned (.tuple #[.agg #[.int .i64 U, .int .i64 V, .int .i64 T], .int .i64 k]) ∧ Below w.heap.size w w' := by
  refine (rnormal_any n c d w).mono ?_
  rintro e w' ⟨U', V', T', k', hE, rfl, hb⟩
  obtain ⟨rfl, rfl, rfl, rfl⟩ := hE.unique h
  exact ⟨rfl, hb⟩
set_option maxHeartbeats 3200000 in
set_option maxRecDepth 1000000 in
theorem normals_walk (n c d : Int) (w : World) :
    Calls Try.prog 3 #[.int .i64 n, .int .i64 c, .int .i64 d] w fun e w' => e = .returned (.bool true) ∧ Below w.heap.size w w' := by
  go_enter Try.func3, Try.ntmps3
  go_upto_region 5 with (first
    | (go_at_call 12; ((with_reducible refine (awake_any _).mono ?_); rintro e w1 ⟨rfl, hb⟩; have HB1 := Lib.hid hb; clear hb))
    | (go_at_call 13; ((with_reducible refine (pnormal_any n c d _).mono ?_); rintro e w2 ⟨U, V, T, k, hE, rfl, hb⟩; have HE := Lib.hid hE; have HB2 := Lib.hid (bel0 HB1.out hb); clear hb hE))
    | (go_at_call 14; ((with_reducible refine (rnormal_at _ HE.out).mono ?_); rintro e w3 ⟨rfl, hb⟩; have V7 : Hid (Tri w3 w2.heap.size U V T) := (Tri.at w2 rfl U V T).below hb; have HB3 := Lib.hid (bel1 HB2.out hb); have hz3 := V7.out.lt; clear hb))
    | fail)
  obtain ⟨k1, k2, k3⟩ := V7.out.cells
  have hsz := HB3.out.size
  go_wp2
  go_ret
  exact ⟨rfl, HB3.out.alloc hsz _⟩
end Go.Proofs.Ytgnekmaonnjfkaa
