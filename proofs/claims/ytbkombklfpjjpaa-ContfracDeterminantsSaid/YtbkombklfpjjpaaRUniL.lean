/- The contracts of the reference's checks and Unimodular. -/
import Derived.Test.YtbkombklfpjjpaaUniL
namespace Go.Proofs.Ytbkombklfpjjpaa
open Go.RowKit
set_option maxHeartbeats 1600000 in
set_option maxRecDepth 1000000 in
theorem rchecks_any (a b c d : Int) (w : World) :
    Calls Try.prog 46 #[.agg #[.int .i64 a, .int .i64 b], .agg #[.int .i64 c, .int .i64 d]] w fun e w' => e = .returned (.int .i64 (bothI a b c d)) ∧ Below w.heap.size w w' := by
  have HC := Lib.hid (fun W => rcheckCusp_any a b W)
  have HD := Lib.hid (fun W => rcheckCusp_any c d W)
  by_cases h : cuspI a b = 0
  · rw [bothI_good h]
    rw [h] at HC
    clear h
    generalize cuspI c d = k at *
    go_enter Try.func46, Try.ntmps46
    go_wp2_with (first
      | (go_at_call 38; ((with_reducible first | refine (HC.out _).mono ?_ | refine (HD.out _).mono ?_ | fail); rintro e w1 ⟨rfl, hb⟩; obtain ⟨hc, hf⟩ := bcell hb; obtain ⟨hz0, hz1⟩ : w.heap.size < w1.heap.size ∧ w.heap.size + 1 < w1.heap.size := (by have := hb.size; (try simp at this); omega); have HBn : Hid (Below w.heap.size w w1) := (by first | exact HB.out.trans (hb.mono HB.out.size) | exact (below2 _ _ _).trans (hb.mono (by simp; omega)) | fail); have HB := Lib.hid HBn.out; clear HBn hb))
      | fail)
    refine bodyPost_ret (v := .int .i64 k) ?_ rfl ⟨rfl, HB.out⟩
    simp [results, Try.results46, go_sem, *]
  · rw [bothI_bad h]
    rcases cusp_vals a b with h0 | h0 | h0
    · exact absurd h0 h
    all_goals
      rw [h0] at HC ⊢
      clear h h0 HD
      go_enter Try.func46, Try.ntmps46
      go_wp2_with (first
        | (go_at_call 38; ((with_reducible refine (HC.out _).mono ?_); rintro e w1 ⟨rfl, hb⟩; obtain ⟨hc, hf⟩ := bcell hb; have HB := Lib.hid ((below2 w _ _).trans (hb.mono (by simp; omega))); clear hb))
        | fail)
      first
        | (refine bodyPost_ret (v := .int .i64 2) ?_ rfl ⟨rfl, HB.out⟩; simp [results, Try.results46, go_sem, *])
        | (refine bodyPost_ret (v := .int .i64 3) ?_ rfl ⟨rfl, HB.out⟩; simp [results, Try.results46, go_sem, *])
set_option maxHeartbeats 1600000 in
set_option maxRecDepth 1000000 in
theorem runimodular_any (a b c d x y z t k : Int) (w : World) (hr : uniE a b c d = (⟨x, y, z, t⟩, k)) :
    Calls Try.prog 28 #[.agg #[.int .i64 a, .int .i64 b], .agg #[.int .i64 c, .int .i64 d]] w fun e w' => e = .returned (.tuple #[.agg #[.int .i64 x, .int .i64 y, .int .i64 z, .int .i64 t], .int .i64 k]) ∧ Below w.heap.size w w' := by
  have HC := Lib.hid (fun W => rchecks_any a b c d W)
  by_cases h : bothI a b c d = 0
  · obtain ⟨g1, g2⟩ := both_ok h
    obtain ⟨a0, b2, a1⟩ := cuspI_zero.1 g1
    obtain ⟨c0, d2, c1⟩ := cuspI_zero.1 g2
    obtain ⟨a1', a2⟩ := inE_iff.1 a0
    obtain ⟨c1', c2⟩ := inE_iff.1 c0
    have b1 := a1.pos
    have d1 := c1.pos
    obtain ⟨r1, r2⟩ := prod_le c1' c2 (show -1073741824 ≤ b by omega) b2
    obtain ⟨r3, r4⟩ := prod_le a1' a2 (show -1073741824 ≤ d by omega) d2
    by_cases k1 : c * b - a * d = 1
    · rw [uni_2 h k1] at hr
      cases hr
      rw [h] at HC
      clear h g1 g2 a0 c0 a1 c1
      go_enter Try.func28, Try.ntmps28
      go_wp2_with (first
        | (go_at_call 46; ((with_reducible refine (HC.out _).mono ?_); rintro e w1 ⟨rfl, hb⟩; obtain ⟨hc, hf⟩ := bcell hb; obtain ⟨hz0, hz1, hz2⟩ : w.heap.size < w1.heap.size ∧ w.heap.size + 1 < w1.heap.size ∧ w.heap.size + 1 + 1 < w1.heap.size := (by have := hb.size; (try simp at this); omega); have HB := Lib.hid ((below3 w _ _ _).trans (hb.mono (by simp; omega))); clear hb))
        | fail)
      refine bodyPost_ret (v := .tuple #[.agg #[.int .i64 c, .int .i64 a, .int .i64 d, .int .i64 b], .int .i64 0]) ?_ rfl ⟨rfl, below_set4 HB.out (by omega) _ _ _ _⟩
      simp [results, Try.results28, go_sem, *]
    by_cases k2 : c * b - a * d = -1
    · rw [uni_3 h k2] at hr
      cases hr
      rw [h] at HC
      clear h g1 g2 a0 c0 a1 c1 k1
      go_enter Try.func28, Try.ntmps28
      go_wp2_with (first
        | (go_at_call 46; ((with_reducible refine (HC.out _).mono ?_); rintro e w1 ⟨rfl, hb⟩; obtain ⟨hc, hf⟩ := bcell hb; obtain ⟨hz0, hz1, hz2⟩ : w.heap.size < w1.heap.size ∧ w.heap.size + 1 < w1.heap.size ∧ w.heap.size + 1 + 1 < w1.heap.size := (by have := hb.size; (try simp at this); omega); have HB := Lib.hid ((below3 w _ _ _).trans (hb.mono (by simp; omega))); clear hb))
        | fail)
      refine bodyPost_ret (v := .tuple #[.agg #[.int .i64 c, .int .i64 (-a), .int .i64 d, .int .i64 (-b)], .int .i64 0]) ?_ rfl ⟨rfl, below_set4 HB.out (by omega) _ _ _ _⟩
      simp [results, Try.results28, go_sem, *]
    · rw [uni_4 h k1 k2] at hr
      cases hr
      rw [h] at HC
      have k3 : ((c * b - a * d) != 1) = true := by simpa using k1
      have k4 : ((c * b - a * d) != -1) = true := by simpa using k2
      clear h g1 g2 a0 c0 a1 c1
      go_enter Try.func28, Try.ntmps28
      go_wp2_with (first
        | (go_at_call 46; ((with_reducible refine (HC.out _).mono ?_); rintro e w1 ⟨rfl, hb⟩; obtain ⟨hc, hf⟩ := bcell hb; obtain ⟨hz0, hz1, hz2⟩ : w.heap.size < w1.heap.size ∧ w.heap.size + 1 < w1.heap.size ∧ w.heap.size + 1 + 1 < w1.heap.size := (by have := hb.size; (try simp at this); omega); have HB := Lib.hid ((below3 w _ _ _).trans (hb.mono (by simp; omega))); clear hb))
        | fail)

      all_goals
        refine bodyPost_ret (v := .tuple #[.agg #[.int .i64 0, .int .i64 0, .int .i64 0, .int .i64 0], .int .i64 3]) ?_ rfl ⟨rfl, below_set4 HB.out (by omega) _ _ _ _⟩
        simp [results, Try.results28, go_sem, *]
  · rw [uni_1 h] at hr
    cases hr
    rcases both_vals a b c d with h0 | h0 | h0
    · exact absurd h0 h
    all_goals
      rw [h0] at HC ⊢
      clear h h0
      go_enter Try.func28, Try.ntmps28
      go_wp2_with (first
        | (go_at_call 46; ((with_reducible refine (HC.out _).mono ?_); rintro e w1 ⟨rfl, hb⟩; obtain ⟨hc, hf⟩ := bcell hb; obtain ⟨hz0, hz1, hz2⟩ : w.heap.size < w1.heap.size ∧ w.heap.size + 1 < w1.heap.size ∧ w.heap.size + 1 + 1 < w1.heap.size := (by have := hb.size; (try simp at this); omega); have HB := Lib.hid ((below3 w _ _ _).trans (hb.mono (by simp; omega))); clear hb))
        | fail)
      first
        | (refine bodyPost_ret (v := .tuple #[.agg #[.int .i64 0, .int .i64 0, .int .i64 0, .int .i64 0], .int .i64 2]) ?_ rfl ⟨rfl, below_set4 HB.out (by omega) _ _ _ _⟩; simp [results, Try.results28, go_sem, *])
        | (refine bodyPost_ret (v := .tuple #[.agg #[.int .i64 0, .int .i64 0, .int .i64 0, .int .i64 0], .int .i64 3]) ?_ rfl ⟨rfl, below_set4 HB.out (by omega) _ _ _ _⟩; simp [results, Try.results28, go_sem, *])
end Go.Proofs.Ytbkombklfpjjpaa
