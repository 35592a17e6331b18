/- CuspsWitness answers true for all integers and all cusps. -/
import Derived.Test.YtcjkdcbminpjlaaAwakeL
import Derived.Test.YtcjkdcbminpjlaaEqM
import Derived.Test.YtcjkdcbminpjlaaHasG
namespace Go.Proofs.Ytcjkdcbminpjlaa
open Go.RowKit

set_option maxHeartbeats 6400000 in
set_option maxRecDepth 1000000 in
theorem witness_walk (n p q p' q' : Int) (w : World) :
    Calls Try.prog 4 #[.int .i64 n, .agg #[.int .i64 p, .int .i64 q], .agg #[.int .i64 p', .int .i64 q']] w fun e w' => e = .returned (.bool true) ∧ Below w.heap.size w w' := by
  go_enter Try.func4, Try.ntmps4
  go_upto_region 4 with (first
    | (go_at_call 6; ((with_reducible refine (awake_any _).mono ?_); rintro e w1 ⟨rfl, hb⟩; have T4 : Hid (Two w1 w.heap.size p q) := ((Two.at w rfl p q).alloc _).below hb; have T5 : Hid (Two w1 (w.heap.size + 1) p' q') := (Two.at (w.alloc _) (by simp) p' q').below hb; have HB1 : Hid (Below w.heap.size w w1) := (below2 w _ _).trans (hb.mono (by simp; omega)); obtain ⟨c1, c2⟩ := T4.out.cells; obtain ⟨c3, c4⟩ := T5.out.cells; have hz1 := T5.out.lt; have hz0 := T4.out.lt; clear hb))
    | (go_at_call 7; ((with_reducible refine (equal0_any n p q p' q' _).mono ?_); rintro e w2 ⟨t, m1, m2, m3, m4, k, hE, rfl, hb⟩; have HE := Lib.hid hE; have U4 := Lib.hid (T4.out.below hb); have U5 := Lib.hid (T5.out.below hb); have HB2 := Lib.hid (bel0 HB1.out hb); clear hb hE c1 c2 c3 c4; obtain ⟨c1, c2⟩ := U4.out.cells; obtain ⟨c3, c4⟩ := U5.out.cells; have hz3 := U5.out.lt; have hz2 := U4.out.lt))
    | fail)
  have hsz2 := HB2.out.size
  by_cases hk : k = 0
  case neg =>
    have ht : t = false := by
      have h := HE.out
      cases h with
      | err _ => rfl
      | yes => exact absurd rfl hk
      | no => rfl
    subst ht
    clear HE
    go_wp2
    go_ret
    exact ⟨rfl, HB2.out.alloc hsz2 _⟩
  subst hk
  go_upto_region 7 with (first
    | (go_at_call 7; ((with_reducible refine (equal0_any n p' q' p q _).mono ?_); rintro e w3 ⟨t2, r1, r2, r3, r4, k2, hE2, rfl, hb⟩; have HU := Lib.hid (EqE.unique HE.out hE2 rfl); have V4 := Lib.hid ((U4.out.alloc _).below hb); have V5 := Lib.hid ((U5.out.alloc _).below hb); have V8 : Hid (Four w3 w2.heap.size m1 m2 m3 m4) := (Four.at w2 rfl m1 m2 m3 m4).below hb; have HB3 := Lib.hid (bel1 HB2.out hb); clear hb hE2 c1 c2 c3 c4; obtain ⟨c1, c2⟩ := V4.out.cells; obtain ⟨c3, c4⟩ := V5.out.cells; obtain ⟨k1, k2', k3, k4⟩ := V8.out.cells; have hz4 := V5.out.lt; have hz5 := V4.out.lt; have hz6 := V8.out.lt))
    | fail)
  obtain ⟨rfl, rfl⟩ := HU.out
  have hsz3 := HB3.out.size
  cases t2 with
  | false =>
    obtain ⟨rfl, rfl, rfl, rfl⟩ := HE.out.no_zero
    clear HE HU
    go_wp2
    go_ret
    exact ⟨rfl, HB3.out.alloc hsz3 _⟩
  | true =>
    obtain ⟨⟨n1, n2⟩, hW⟩ := HE.out.wit
    have HW := Lib.hid hW
    have HH := Lib.hid (fun W => hasG n m1 m2 m3 m4 W n1 n2 hW.fit hW.det (Int.tmod_eq_zero_of_dvd hW.low))
    have HA := Lib.hid (fun W => apply_any m1 m2 m3 m4 p q p' q' 0 W hW.app)
    clear HE HU hW
    go_upto_region 13 with (first
      | (go_at_call 9; ((with_reducible refine (HH.out _).mono ?_); rintro e w4 ⟨rfl, hb⟩; have X4 := Lib.hid ((V4.out.alloc _).below hb); have X5 := Lib.hid ((V5.out.alloc _).below hb); have X8 := Lib.hid ((V8.out.alloc _).below hb); have HB4 := Lib.hid (bel1 HB3.out hb); clear hb c1 c2 c3 c4 k1 k2' k3 k4; obtain ⟨c1, c2⟩ := X4.out.cells; obtain ⟨c3, c4⟩ := X5.out.cells; obtain ⟨k1, k2', k3, k4⟩ := X8.out.cells; have hz7 := X5.out.lt; have hz8 := X4.out.lt; have hz9 := X8.out.lt))
      | (go_at_call 10; ((with_reducible refine (HA.out _).mono ?_); rintro e w5 ⟨rfl, hb⟩; have Y5 := Lib.hid (X5.out.below hb); have HB5 := Lib.hid (bel0 HB4.out hb); clear hb c1 c2 c3 c4 k1 k2' k3 k4; obtain ⟨c3, c4⟩ := Y5.out.cells; have hz10 := Y5.out.lt))
      | fail)
    have hsz5 := HB5.out.size
    go_wp2
    go_ret
    exact ⟨rfl, HB5.out.alloc hsz5 _⟩
end Go.Proofs.Ytcjkdcbminpjlaa
