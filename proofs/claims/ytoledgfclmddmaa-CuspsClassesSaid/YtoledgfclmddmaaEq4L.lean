/- Equal0 at the example of the chapter. -/
import Derived.Test.YtoledgfclmddmaaAtkL
import Derived.Test.YtoledgfclmddmaaLawK
import Derived.Test.YtoledgfclmddmaaApplyL
namespace Go.Proofs.Ytoledgfclmddmaa
open Go.RowKit

theorem cusp_10 : cuspI 1 0 = 0 := by decide +kernel
theorem cusp_14 : cuspI 1 4 = 0 := by decide +kernel
set_option maxHeartbeats 1600000 in
set_option maxRecDepth 1000000 in
theorem check_4 {A : Option Addr} {B : Nat} (w : World) (h : RdC w B A 2 [(1, 0), (1, 4)]) (hB : B ≤ w.heap.size) : Calls Try.prog 30 #[.int .i64 4, .slice A 2 2] w fun e w' => e = .returned (.int .i64 0) ∧ Below w.heap.size w w' := by
  have HC := Lib.hid (fun W => checkCusp_any 1 0 W)
  have HD := Lib.hid (fun W => checkCusp_any 1 4 W)
  rw [cusp_10] at HC
  rw [cusp_14] at HD
  obtain ⟨b, o, rfl, hb, x0, x1⟩ := h.at_ (k := 0) (by decide)
  obtain ⟨b', o', e', _, x2, x3⟩ := h.at_ (k := 1) (by decide)
  cases e'
  have hbw : b < w.heap.size := by omega
  simp at x0 x1 x2 x3
  clear h
  go_enter Try.func30, Try.ntmps30
  go_wp2
  refine wp_loop_rounds 3 ?_
  rw [rounds_succ]
  go_wp2_with (first
    | (go_at_call 52; ((with_reducible refine (HC.out _).mono ?_); rintro e w1 ⟨rfl, hb1⟩; obtain ⟨hc, hf⟩ := bcell hb1; have hz1 : w.heap.size < w1.heap.size := (by have := hb1.size; simp at this; omega); have HB1 := Lib.hid ((below1 w _).trans (hb1.mono (by simp))); have hbw1 : b < w1.heap.size := (by omega); clear hb1))
    | fail)
  rw [rounds_succ]
  go_wp2_with (first
    | (go_at_call 52; ((with_reducible refine (HD.out _).mono ?_); rintro e w2 ⟨rfl, hb2⟩; obtain ⟨hc2, hf2⟩ := bcell hb2; have hz2 : w1.heap.size < w2.heap.size := (by have := hb2.size; simp at this; omega); have HB2 : Hid (Below w.heap.size w w2) := bel1 HB1.out hb2; clear hb2))
    | fail)
  rw [rounds_succ]
  go_wp2
  go_ret
  exact ⟨rfl, HB2.out⟩
set_option maxHeartbeats 1600000 in
set_option maxRecDepth 1000000 in
theorem matrix_10 (w : World) : Calls Try.prog 39 #[.agg #[.int .i64 1, .int .i64 0]] w fun e w' => e = .returned (.agg #[.int .i64 1, .int .i64 0, .int .i64 0, .int .i64 1]) ∧ Below w.heap.size w w' := by
  go_enter Try.func39, Try.ntmps39
  go_wp2
  refine bodyPost_ret (v := .agg #[.int .i64 1, .int .i64 0, .int .i64 0, .int .i64 1]) ?_ rfl ⟨rfl, ?_⟩
  · simp [results, Try.results39, go_sem, *]
  · exact below2 _ _ _
theorem inv_14 {u e : Int} (h : InvIs 1 4 u e) : u = 1 := by
  rcases inv_least (by decide) h with ⟨h1, _, h3⟩ | ⟨h1, _⟩
  · exact h3.unique ⟨by decide, by decide, by decide⟩ h1
  · exact absurd (by decide +kernel) h1
set_option maxHeartbeats 1600000 in
set_option maxRecDepth 1000000 in
theorem matrix_14 (w : World) : Calls Try.prog 39 #[.agg #[.int .i64 1, .int .i64 4]] w fun e w' => e = .returned (.agg #[.int .i64 1, .int .i64 0, .int .i64 4, .int .i64 1]) ∧ Below w.heap.size w w' := by
  go_enter Try.func39, Try.ntmps39
  go_upto_region 4 with (first
    | (go_at_call 41; ((with_reducible refine (inverse_yes 1 4 _ (by decide) (by decide)).mono ?_); rintro e wx ⟨u, e0, rfl, hi, rfl⟩; obtain rfl := inv_14 hi; clear hi))
    | fail)
  go_region
  go_wp2
  refine bodyPost_ret (v := .agg #[.int .i64 1, .int .i64 0, .int .i64 4, .int .i64 1]) ?_ rfl ⟨rfl, ?_⟩
  · simp [results, Try.results39, go_sem, *]
  · exact (below2 _ _ _).drew
theorem rdc2 (w : World) (a b c d : Int) (t : TypeId) {g : Nat} (hg : g = w.heap.size) : RdC (w.alloc (.cells #[.int .i64 a, .int .i64 b, .int .i64 c, .int .i64 d] t)) (w.heap.size + 1) (some ⟨g, 0, none⟩) 2 [(a, b), (c, d)] := by
  subst hg
  refine ⟨by simp, by unfold maxLen; omega, fun _ => ⟨w.heap.size, 0, rfl, by omega, fun k hk => ?_⟩, fun a ha => by cases ha; exact ⟨_, _, rfl⟩⟩
  match k, hk with
  | 0, _ => simp
  | 1, _ => simp
theorem inv_1 (w : World) : Calls Try.prog 38 #[.agg #[.int .i64 1, .int .i64 0, .int .i64 0, .int .i64 1]] w fun e w' => e = .returned (.tuple #[.agg #[.int .i64 1, .int .i64 0, .int .i64 0, .int .i64 1], .int .i64 0]) ∧ Below w.heap.size w w' := inverse_any 1 0 0 1 1 0 0 1 0 w (by rfl)
theorem mul_14 (w : World) : Calls Try.prog 40 #[.agg #[.int .i64 1, .int .i64 0, .int .i64 4, .int .i64 1], .agg #[.int .i64 1, .int .i64 0, .int .i64 0, .int .i64 1]] w fun e w' => e = .returned (.tuple #[.agg #[.int .i64 1, .int .i64 0, .int .i64 4, .int .i64 1], .int .i64 0]) ∧ Below w.heap.size w w' := mul_any 1 0 4 1 1 0 0 1 1 0 4 1 0 w ((mulE_ok (by decide +kernel) (by decide +kernel) (by decide +kernel)).trans (by rfl))
set_option maxHeartbeats 1600000 in
set_option maxRecDepth 1000000 in
theorem equal0_4 (w : World) : Calls Try.prog 20 #[.int .i64 4, .agg #[.int .i64 1, .int .i64 0], .agg #[.int .i64 1, .int .i64 4]] w fun e w' => e = .returned (.tuple #[.bool true, .agg #[.int .i64 1, .int .i64 0, .int .i64 4, .int .i64 1], .int .i64 0]) ∧ Below w.heap.size w w' := by
  go_enter Try.func20, Try.ntmps20
  go_wp2_with (first
    | (go_at_call 30; ((with_reducible refine (check_4 _ (rdc2 _ 1 0 1 4 _ (by simp)) (by simp)).mono ?_); rintro e w1 ⟨rfl, hb⟩; have T1 : Hid (Two w1 w.heap.size 1 0) := ((((Two.at w rfl 1 0).alloc _).alloc _).alloc _).below hb; have T2 : Hid (Two w1 (w.heap.size + 1) 1 4) := (((Two.at (w.alloc _) (by simp) 1 4).alloc _).alloc _).below hb; have T3 : Hid (Four w1 (w.heap.size + 2) 0 0 0 0) := ((Four.at ((w.alloc _).alloc _) (by simp) 0 0 0 0).alloc _).below hb; have HB1 : Hid (Below w.heap.size w w1) := (below4 w _ _ _ _).trans (hb.mono (by simp; omega)); have hz1 : w.heap.size + 2 < w1.heap.size := T3.out.lt; have c1 := T1.out.cells.1; have c2 := T1.out.cells.2; clear hb))
    | (go_at_call 39; ((with_reducible refine (matrix_10 _).mono ?_); rintro e w2 ⟨rfl, hb⟩; have HB2 : Hid (Below w.heap.size w w2) := bel0 HB1.out hb; have U2 : Hid (Two w2 (w.heap.size + 1) 1 4) := T2.out.below hb; have U3 : Hid (Four w2 (w.heap.size + 2) 0 0 0 0) := T3.out.below hb; clear hb T2 T3 T1 c1 c2))
    | (go_at_call 38; ((with_reducible refine (inv_1 _).mono ?_); rintro e w3 ⟨rfl, hb⟩; have HB3 : Hid (Below w.heap.size w w3) := bel0 HB2.out hb; have V2 : Hid (Two w3 (w.heap.size + 1) 1 4) := U2.out.below hb; have V3 : Hid (Four w3 (w.heap.size + 2) 0 0 0 0) := U3.out.below hb; have hz3 : w.heap.size + 2 < w3.heap.size := V3.out.lt; have hz3' : w.heap.size + 1 < w3.heap.size := V2.out.lt; have c1 := V2.out.cells.1; have c2 := V2.out.cells.2; clear hb U2 U3))
    | (go_at_call 39; ((with_reducible refine (matrix_14 _).mono ?_); rintro e w4 ⟨rfl, hb⟩; have HB4 : Hid (Below w.heap.size w w4) := bel1 HB3.out hb; have W1 : Hid (Four w4 w3.heap.size 1 0 0 1) := (Four.at w3 rfl 1 0 0 1).below hb; have W3 : Hid (Four w4 (w.heap.size + 2) 0 0 0 0) := (V3.out.alloc _).below hb; have hz4 : w.heap.size + 2 < w4.heap.size := W3.out.lt; clear hb V2 V3 c1 c2))
    | fail)
  refine wp_loop_rounds 1 ?_
  rw [rounds_succ]
  go_upto_region 10 with (first
    | (go_at_call 40; ((with_reducible refine (mul_14 _).mono ?_); rintro e w5 ⟨rfl, hb⟩; have HB5 : Hid (Below w.heap.size w w5) := bel1 HB4.out hb; have X1 : Hid (Four w5 w3.heap.size 1 0 0 1) := (W1.out.alloc _).below hb; have X3 : Hid (Four w5 (w.heap.size + 2) 0 0 0 0) := (W3.out.alloc _).below hb; have hz5 : w3.heap.size < w5.heap.size := X1.out.lt; have hz5' : w.heap.size + 2 < w5.heap.size := X3.out.lt; have c := X1.out.cells; obtain ⟨c1, c2, c3, c4⟩ := c; clear hb W1 W3))
    | fail)
  go_wp2_with (first
    | (go_at_call 40; ((with_reducible refine (mul_14 _).mono ?_); rintro e w6 ⟨rfl, hb⟩; have HB6 : Hid (Below w.heap.size w w6) := bel1 HB5.out hb; have Y3 : Hid (Four w6 (w.heap.size + 2) 0 0 0 0) := (X3.out.alloc _).below hb; have hz6 : w.heap.size + 2 < w6.heap.size := Y3.out.lt; have f6 := Y3.out.free; have c := Y3.out.cells; obtain ⟨c1, c2, c3, c4⟩ := c; clear hb X1 X3))
    | fail)
  go_region
  go_wp2
  have HZ : Four (((((w6.setCell ⟨w.heap.size + 1 + 1, 0, none⟩ (.int .i64 1)).setCell ⟨w.heap.size + 1 + 1, 1, none⟩ (.int .i64 0)).setCell ⟨w.heap.size + 1 + 1, 2, none⟩ (.int .i64 4)).setCell ⟨w.heap.size + 1 + 1, 3, none⟩ (.int .i64 1)).alloc (.cells #[.int .i64 1, .int .i64 0, .int .i64 4, .int .i64 1] 58)).drew (w.heap.size + 1 + 1) 1 0 4 1 := ((Y3.out.set 1 0 4 1).alloc _).drew
  have hc := HZ.cells
  obtain ⟨d1, d2, d3, d4⟩ := hc
  refine bodyPost_ret (v := .tuple #[.bool true, .agg #[.int .i64 1, .int .i64 0, .int .i64 4, .int .i64 1], .int .i64 0]) ?_ rfl ⟨rfl, ?_⟩
  · simp [results, Try.results20, go_sem, d1, d2, d3, d4]
  · exact ((below_set4 HB6.out (by omega) _ _ _ _).alloc (by simp; omega) _).drew
end Go.Proofs.Ytoledgfclmddmaa
