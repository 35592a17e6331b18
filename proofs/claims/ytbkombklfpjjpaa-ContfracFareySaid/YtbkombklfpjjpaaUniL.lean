/- The contract of Unimodular. -/
import Derived.Test.YtbkombklfpjjpaaBothL
namespace Go.Proofs.Ytbkombklfpjjpaa
open Go.RowKit

/-- The matrix and the error of Unimodular. -/
def uniE (a b c d : Int) : M × Int :=
  if bothI a b c d ≠ 0 then (⟨0, 0, 0, 0⟩, bothI a b c d)
  else if c * b - a * d = 1 then (⟨c, a, d, b⟩, 0)
  else if c * b - a * d = -1 then (⟨c, -a, d, -b⟩, 0) else (⟨0, 0, 0, 0⟩, 3)
theorem uni_1 {a b c d : Int} (h : bothI a b c d ≠ 0) : uniE a b c d = (⟨0, 0, 0, 0⟩, bothI a b c d) := if_pos h
theorem uni_2 {a b c d : Int} (h : bothI a b c d = 0) (k : c * b - a * d = 1) : uniE a b c d = (⟨c, a, d, b⟩, 0) := by
  unfold uniE; rw [if_neg (by simpa using h), if_pos k]
theorem uni_3 {a b c d : Int} (h : bothI a b c d = 0) (k : c * b - a * d = -1) : uniE a b c d = (⟨c, -a, d, -b⟩, 0) := by
  unfold uniE; rw [if_neg (by simpa using h), if_neg (by omega), if_pos k]
theorem uni_4 {a b c d : Int} (h : bothI a b c d = 0) (k1 : ¬ c * b - a * d = 1) (k2 : ¬ c * b - a * d = -1) : uniE a b c d = (⟨0, 0, 0, 0⟩, 3) := by
  unfold uniE; rw [if_neg (by simpa using h), if_neg k1, if_neg k2]
theorem both_ok {a b c d : Int} (h : bothI a b c d = 0) : cuspI a b = 0 ∧ cuspI c d = 0 := by
  by_cases h1 : cuspI a b = 0
  · rw [bothI_good h1] at h; exact ⟨h1, h⟩
  · rw [bothI_bad h1] at h; exact absurd h h1
theorem both_vals (a b c d : Int) : bothI a b c d = 0 ∨ bothI a b c d = 2 ∨ bothI a b c d = 3 := by
  unfold bothI; split <;> exact cusp_vals _ _
set_option maxHeartbeats 1600000 in
set_option maxRecDepth 1000000 in
theorem unimodular_any (a b c d x y z t k : Int) (w : World) (hr : uniE a b c d = (⟨x, y, z, t⟩, k)) :
    Calls Try.prog 27 #[.agg #[.int .i64 a, .int .i64 b], .agg #[.int .i64 c, .int .i64 d]] w fun e w' => e = .returned (.tuple #[.agg #[.int .i64 x, .int .i64 y, .int .i64 z, .int .i64 t], .int .i64 k]) ∧ Below w.heap.size w w' := by
  have HC := Lib.hid (fun W => checkBoth_any a b c d W)
  by_cases h : bothI a b c d = 0
  · obtain ⟨g1, g2⟩ := both_ok h
    obtain ⟨a0, b2, a1⟩ := cuspI_zero.1 g1
    obtain ⟨c0, d2, c1⟩ := cuspI_zero.1 g2
    obtain ⟨a1', a2⟩ := inE_iff.1 a0
    obtain ⟨c1', c2⟩ := inE_iff.1 c0
    have b1 := a1.pos
    have d1 := c1.pos
    obtain ⟨r1, r2⟩ := prod_le c1' c2 (show -1073741824 ≤ b by omega) b2
    obtain ⟨r3, r4⟩ := prod_le a1' a2 (show -1073741824 ≤ d by omega) d2
    by_cases k1 : c * b - a * d = 1
    · rw [uni_2 h k1] at hr
      cases hr
      rw [h] at HC
      clear h g1 g2 a0 c0 a1 c1
      go_enter Try.func27, Try.ntmps27
      go_wp2_with (first
        | (go_at_call 45; ((with_reducible refine (HC.out _).mono ?_); rintro e w1 ⟨rfl, hb⟩; obtain ⟨hc, hf⟩ := bcell hb; obtain ⟨hz0, hz1, hz2⟩ : w.heap.size < w1.heap.size ∧ w.heap.size + 1 < w1.heap.size ∧ w.heap.size + 1 + 1 < w1.heap.size := (by have := hb.size; (try simp at this); omega); have HB := Lib.hid ((below3 w _ _ _).trans (hb.mono (by simp; omega))); clear hb))
        | fail)
      refine bodyPost_ret (v := .tuple #[.agg #[.int .i64 c, .int .i64 a, .int .i64 d, .int .i64 b], .int .i64 0]) ?_ rfl ⟨rfl, below_set4 HB.out (by omega) _ _ _ _⟩
      simp [results, Try.results27, go_sem, *]
    by_cases k2 : c * b - a * d = -1
    · rw [uni_3 h k2] at hr
      cases hr
      rw [h] at HC
      clear h g1 g2 a0 c0 a1 c1 k1
      go_enter Try.func27, Try.ntmps27
      go_wp2_with (first
        | (go_at_call 45; ((with_reducible refine (HC.out _).mono ?_); rintro e w1 ⟨rfl, hb⟩; obtain ⟨hc, hf⟩ := bcell hb; obtain ⟨hz0, hz1, hz2⟩ : w.heap.size < w1.heap.size ∧ w.heap.size + 1 < w1.heap.size ∧ w.heap.size + 1 + 1 < w1.heap.size := (by have := hb.size; (try simp at this); omega); have HB := Lib.hid ((below3 w _ _ _).trans (hb.mono (by simp; omega))); clear hb))
        | fail)
      refine bodyPost_ret (v := .tuple #[.agg #[.int .i64 c, .int .i64 (-a), .int .i64 d, .int .i64 (-b)], .int .i64 0]) ?_ rfl ⟨rfl, below_set4 HB.out (by omega) _ _ _ _⟩
      simp [results, Try.results27, go_sem, *]
    · rw [uni_4 h k1 k2] at hr
      cases hr
      rw [h] at HC
      have k3 : ((c * b - a * d) != 1) = true := by simpa using k1
      have k4 : ((c * b - a * d) != -1) = true := by simpa using k2
      clear h g1 g2 a0 c0 a1 c1
      go_enter Try.func27, Try.ntmps27
      go_wp2_with (first
        | (go_at_call 45; ((with_reducible refine (HC.out _).mono ?_); rintro e w1 ⟨rfl, hb⟩; obtain ⟨hc, hf⟩ := bcell hb; obtain ⟨hz0, hz1, hz2⟩ : w.heap.size < w1.heap.size ∧ w.heap.size + 1 < w1.heap.size ∧ w.heap.size + 1 + 1 < w1.heap.size := (by have := hb.size; (try simp at this); omega); have HB := Lib.hid ((below3 w _ _ _).trans (hb.mono (by simp; omega))); clear hb))
        | fail)

      all_goals
        refine bodyPost_ret (v := .tuple #[.agg #[.int .i64 0, .int .i64 0, .int .i64 0, .int .i64 0], .int .i64 3]) ?_ rfl ⟨rfl, below_set4 HB.out (by omega) _ _ _ _⟩
        simp [results, Try.results27, go_sem, *]
  · rw [uni_1 h] at hr
    cases hr
    rcases both_vals a b c d with h0 | h0 | h0
    · exact absurd h0 h
    all_goals
      rw [h0] at HC ⊢
      clear h h0
      go_enter Try.func27, Try.ntmps27
      go_wp2_with (first
        | (go_at_call 45; ((with_reducible refine (HC.out _).mono ?_); rintro e w1 ⟨rfl, hb⟩; obtain ⟨hc, hf⟩ := bcell hb; obtain ⟨hz0, hz1, hz2⟩ : w.heap.size < w1.heap.size ∧ w.heap.size + 1 < w1.heap.size ∧ w.heap.size + 1 + 1 < w1.heap.size := (by have := hb.size; (try simp at this); omega); have HB := Lib.hid ((below3 w _ _ _).trans (hb.mono (by simp; omega))); clear hb))
        | fail)
      first
        | (refine bodyPost_ret (v := .tuple #[.agg #[.int .i64 0, .int .i64 0, .int .i64 0, .int .i64 0], .int .i64 2]) ?_ rfl ⟨rfl, below_set4 HB.out (by omega) _ _ _ _⟩; simp [results, Try.results27, go_sem, *])
        | (refine bodyPost_ret (v := .tuple #[.agg #[.int .i64 0, .int .i64 0, .int .i64 0, .int .i64 0], .int .i64 3]) ?_ rfl ⟨rfl, below_set4 HB.out (by omega) _ _ _ _⟩; simp [results, Try.results27, go_sem, *])
end Go.Proofs.Ytbkombklfpjjpaa
