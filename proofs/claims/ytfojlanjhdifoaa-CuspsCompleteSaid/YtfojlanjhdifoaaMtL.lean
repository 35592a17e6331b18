/- The matrix of a cusp: the code's matrix, the reference's Of; T. -/
import Derived.Test.YtfojlanjhdifoaaCkL
namespace Go.Proofs.Ytfojlanjhdifoaa
open Go.RowKit
set_option linter.unusedVariables false

/-- What the matrix of p/q is. -/
inductive MatIs (p q : Int) : Int → Int → Int → Int → Prop
  | inf : q = 0 → MatIs p q 1 0 0 1
  | fin (d : Int) : 1 ≤ q → LeastInv p q d → MatIs p q p ((p * d - 1) / q) q d
theorem MatIs.fin_b {p q d : Int} (q1 : 1 ≤ q) (q2 : q ≤ 1000) (p1 : -1000 ≤ p) (p2 : p ≤ 1000) (h : LeastInv p q d) : -1000000 ≤ p * d ∧ p * d ≤ 1000000 ∧ -1001 ≤ (p * d - 1) / q ∧ (p * d - 1) / q ≤ 1001 ∧ (p * d - 1) / q * q = p * d - 1 ∧ (p * d - 1).tdiv q = (p * d - 1) / q := by
  have d0 := h.lo
  have d1 := h.hi
  have hb : (p * d - 1) / q * q = p * d - 1 := Int.ediv_mul_cancel h.dvd
  have ht : (p * d - 1).tdiv q = (p * d - 1) / q := Int.tdiv_eq_ediv_of_dvd h.dvd
  have e1 : -(1000 * d) ≤ p * d := by have := Int.mul_le_mul_of_nonneg_right p1 d0; omega
  have e2 : p * d ≤ 1000 * d := by have := Int.mul_le_mul_of_nonneg_right p2 d0; omega
  generalize (p * d - 1) / q = b at *
  refine ⟨by omega, by omega, ?_, ?_, hb, ht⟩
  · rcases Int.lt_or_le b (-1001) with h | h
    · have := Int.mul_le_mul_of_nonneg_right (show b ≤ -1002 by omega) (show 0 ≤ q by omega); omega
    · exact h
  · rcases Int.lt_or_le 1001 b with h | h
    · have := Int.mul_le_mul_of_nonneg_right (show 1002 ≤ b by omega) (show 0 ≤ q by omega); omega
    · exact h
theorem MatIs.bounds {p q A B C D : Int} (h : MatIs p q A B C D) (q2 : q ≤ 1000) (p1 : -1000 ≤ p) (p2 : p ≤ 1000) : (-1001 ≤ A ∧ A ≤ 1001) ∧ (-1001 ≤ B ∧ B ≤ 1001) ∧ (0 ≤ C ∧ C ≤ 1001) ∧ (0 ≤ D ∧ D ≤ 1001) ∧ A * D - B * C = 1 := by
  cases h with
  | inf h => decide
  | fin d q1 hd =>
    obtain ⟨_, _, h3, h4, h5, _⟩ := MatIs.fin_b q1 q2 p1 p2 hd
    have := hd.lo
    have := hd.hi
    omega
theorem low_gcd {p q : Int} (h : cuspI p q = 0) : Int.gcd p q = 1 ∧ 0 ≤ q := ⟨(cuspI_zero.1 h).2.2.cop, (cuspI_zero.1 h).2.2.pos⟩
set_option maxHeartbeats 1600000 in
set_option maxRecDepth 1000000 in
theorem matrix_any (p q : Int) (w : World) (h : cuspI p q = 0) (p1 : -1000 ≤ p) (p2 : p ≤ 1000) (q2 : q ≤ 1000) : Calls Try.prog 25 #[.agg #[.int .i64 p, .int .i64 q]] w fun e w' => ∃ A B C D, MatIs p q A B C D ∧ e = .returned (.agg #[.int .i64 A, .int .i64 B, .int .i64 C, .int .i64 D]) ∧ Below w.heap.size w w' := by
  obtain ⟨hg, q0⟩ := low_gcd h
  clear h
  by_cases hq : q = 0
  · subst hq
    go_enter Try.func25, Try.ntmps25
    go_wp2
    refine bodyPost_ret (v := .agg #[.int .i64 1, .int .i64 0, .int .i64 0, .int .i64 1]) ?_ rfl ⟨1, 0, 0, 1, .inf rfl, rfl, ?_⟩
    · simp [results, Try.results25, go_sem, *]
    · exact below2 _ _ _
  have q1 : 1 ≤ q := by omega
  have HI := Lib.hid (fun W => inverse_yes p q W q1 (by omega))
  have HG := Lib.hid hg
  clear hg q0
  go_enter Try.func25, Try.ntmps25
  go_upto_region 4 with (first
    | (go_at_call 32; ((with_reducible refine (HI.out _).mono ?_); rintro e wx ⟨d, e0, rfl, hi, rfl⟩; have HV := Lib.hid hi; clear hi))
    | fail)
  obtain ⟨rfl, hl⟩ : e0 = 0 ∧ LeastInv p q d := by
    rcases inv_least q1 HV.out with ⟨_, h2, h3⟩ | ⟨h1, _⟩
    · exact ⟨h2, h3⟩
    · exact absurd HG.out h1
  obtain ⟨m1, m2, m3, m4, _, m5⟩ := MatIs.fin_b q1 q2 p1 p2 hl
  have HL := Lib.hid hl
  clear hl
  go_region
  go_wp2
  refine bodyPost_ret (v := .agg #[.int .i64 p, .int .i64 ((p * d - 1) / q), .int .i64 q, .int .i64 d]) ?_ rfl ⟨_, _, _, _, .fin d q1 HL.out, rfl, ?_⟩
  · simp [results, Try.results25, go_sem, *]
  · exact (below2 _ _ _).drew
end Go.Proofs.Ytfojlanjhdifoaa
