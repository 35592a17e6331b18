/- The matrix of a cusp: the code's matrix, the reference's Of; T. -/
import Derived.Test.YtcjkdcbminpjlaaCkL
namespace Go.Proofs.Ytcjkdcbminpjlaa
open Go.RowKit
set_option linter.unusedVariables false

/-- What the matrix of p/q is. -/
inductive MatIs (p q : Int) : Int → Int → Int → Int → Prop
  | inf : q = 0 → MatIs p q 1 0 0 1
  | fin (d : Int) : 1 ≤ q → LeastInv p q d → MatIs p q p ((p * d - 1) / q) q d
theorem MatIs.fin_b {p q d : Int} (q1 : 1 ≤ q) (q2 : q ≤ 1000) (p1 : -1000 ≤ p) (p2 : p ≤ 1000) (h : LeastInv p q d) : -1000000 ≤ p * d ∧ p * d ≤ 1000000 ∧ -1001 ≤ (p * d - 1) / q ∧ (p * d - 1) / q ≤ 1001 ∧ (p * d - 1) / q * q = p * d - 1 ∧ (p * d - 1).tdiv q = (p * d - 1) / q := by
  have d0 := h.lo
  have d1 := h.hi
  have hb : (p * d - 1) / q * q = p * d - 1 := Int.ediv_mul_cancel h.dvd
  have ht : (p * d - 1).tdiv q = (p * d - 1) / q := Int.tdiv_eq_ediv_of_dvd h.dvd
  have e1 : -(1000 * d) ≤ p * d := by have := Int.mul_le_mul_of_nonneg_right p1 d0; omega
  have e2 : p * d ≤ 1000 * d := by have := Int.mul_le_mul_of_nonneg_right p2 d0; omega
  generalize (p * d - 1) / q = b at *
  refine ⟨by omega, by omega, ?_, ?_, hb, ht⟩
  · rcases Int.lt_or_le b (-1001) with h | h
    · have := Int.mul_le_mul_of_nonneg_right (show b ≤ -1002 by omega) (show 0 ≤ q by omega); omega
    · exact h
  · rcases Int.lt_or_le 1001 b with h | h
    · have := Int.mul_le_mul_of_nonneg_right (show 1002 ≤ b by omega) (show 0 ≤ q by omega); omega
    · exact h
theorem MatIs.bounds {p q A B C D : Int} (h : MatIs p q A B C D) (q2 : q ≤ 1000) (p1 : -1000 ≤ p) (p2 : p ≤ 1000) : (-1001 ≤ A ∧ A ≤ 1001) ∧ (-1001 ≤ B ∧ B ≤ 1001) ∧ (0 ≤ C ∧ C ≤ 1001) ∧ (0 ≤ D ∧ D ≤ 1001) ∧ A * D - B * C = 1 := by
  cases h with
  | inf h => decide
  | fin d q1 hd =>
    obtain ⟨_, _, h3, h4, h5, _⟩ := MatIs.fin_b q1 q2 p1 p2 hd
    have := hd.lo
    have := hd.hi
    omega
theorem low_gcd {p q : Int} (h : cuspI p q = 0) : Int.gcd p q = 1 ∧ 0 ≤ q := ⟨(cuspI_zero.1 h).2.2.cop, (cuspI_zero.1 h).2.2.pos⟩
set_option maxHeartbeats 1600000 in
set_option maxRecDepth 1000000 in
theorem matrix_any (p q : Int) (w : World) (h : cuspI p q = 0) (p1 : -1000 ≤ p) (p2 : p ≤ 1000) (q2 : q ≤ 1000) : Calls Try.prog 19 #[.agg #[.int .i64 p, .int .i64 q]] w fun e w' => ∃ A B C D, MatIs p q A B C D ∧ e = .returned (.agg #[.int .i64 A, .int .i64 B, .int .i64 C, .int .i64 D]) ∧ Below w.heap.size w w' := by
  obtain ⟨hg, q0⟩ := low_gcd h
  clear h
  by_cases hq : q = 0
  · subst hq
    go_enter Try.func19, Try.ntmps19
    go_wp2
    refine bodyPost_ret (v := .agg #[.int .i64 1, .int .i64 0, .int .i64 0, .int .i64 1]) ?_ rfl ⟨1, 0, 0, 1, .inf rfl, rfl, ?_⟩
    · simp [results, Try.results19, go_sem, *]
    · exact below2 _ _ _
  have q1 : 1 ≤ q := by omega
  have HI := Lib.hid (fun W => inverse_yes p q W q1 (by omega))
  have HG := Lib.hid hg
  clear hg q0
  go_enter Try.func19, Try.ntmps19
  go_upto_region 4 with (first
    | (go_at_call 32; ((with_reducible refine (HI.out _).mono ?_); rintro e wx ⟨d, e0, rfl, hi, rfl⟩; have HV := Lib.hid hi; clear hi))
    | fail)
  obtain ⟨rfl, hl⟩ : e0 = 0 ∧ LeastInv p q d := by
    rcases inv_least q1 HV.out with ⟨_, h2, h3⟩ | ⟨h1, _⟩
    · exact ⟨h2, h3⟩
    · exact absurd HG.out h1
  obtain ⟨m1, m2, m3, m4, _, m5⟩ := MatIs.fin_b q1 q2 p1 p2 hl
  have HL := Lib.hid hl
  clear hl
  go_region
  go_wp2
  refine bodyPost_ret (v := .agg #[.int .i64 p, .int .i64 ((p * d - 1) / q), .int .i64 q, .int .i64 d]) ?_ rfl ⟨_, _, _, _, .fin d q1 HL.out, rfl, ?_⟩
  · simp [results, Try.results19, go_sem, *]
  · exact (below2 _ _ _).drew
set_option maxHeartbeats 1600000 in
set_option maxRecDepth 1000000 in
theorem mod_any (a q : Int) (w : World) (a1 : -1000001 ≤ a) (a2 : a ≤ 1000001) (q1 : 1 ≤ q) (q2 : q ≤ 1000) : Calls Try.prog 43 #[.int .i64 a, .int .i64 q] w fun e w' => e = .returned (.int .i64 (a % q)) ∧ w' = w := by
  have hm := tmod_add a q (by omega)
  have hs := tmod_same a q (by omega)
  have b1 : (a.tmod q).natAbs < q.natAbs := by rw [Int.natAbs_tmod]; exact Nat.mod_lt _ (by omega)
  by_cases h : a.tmod q < 0
  · have e := hm h
    clear hm hs
    go_enter Try.func43, Try.ntmps43
    go_wp2
    go_ret
    exact ⟨rfl, rfl⟩
  · have e := hs (by omega)
    clear hm hs
    rw [← e]
    go_enter Try.func43, Try.ntmps43
    go_wp2
    go_ret
    exact ⟨rfl, rfl⟩
set_option maxHeartbeats 800000 in
set_option maxRecDepth 1000000 in
theorem one_any (w : World) : Calls Try.prog 42 #[] w fun e w' => e = .returned (.agg #[.int .i64 1, .int .i64 0, .int .i64 0, .int .i64 1]) ∧ Below w.heap.size w w' := by
  go_enter Try.func42, Try.ntmps42
  go_wp2
  refine bodyPost_ret (v := .agg #[.int .i64 1, .int .i64 0, .int .i64 0, .int .i64 1]) ?_ rfl ⟨rfl, ?_⟩
  · simp [results, Try.results42, go_sem, *]
  · exact below1 _ _
set_option maxHeartbeats 800000 in
set_option maxRecDepth 1000000 in
theorem t_any (k : Int) (w : World) : Calls Try.prog 24 #[.int .i64 k] w fun e w' => e = .returned (.agg #[.int .i64 1, .int .i64 k, .int .i64 0, .int .i64 1]) ∧ Below w.heap.size w w' := by
  go_enter Try.func24, Try.ntmps24
  go_wp2
  refine bodyPost_ret (v := .agg #[.int .i64 1, .int .i64 k, .int .i64 0, .int .i64 1]) ?_ rfl ⟨rfl, ?_⟩
  · simp [results, Try.results24, go_sem, *]
  · exact below1 _ _
set_option maxHeartbeats 1600000 in
set_option maxRecDepth 1000000 in
theorem of_at {p q A B C D : Int} (w : World) (hm : MatIs p q A B C D) (h : cuspI p q = 0) (p1 : -1000 ≤ p) (p2 : p ≤ 1000) (q2 : q ≤ 1000) : Calls Try.prog 23 #[.agg #[.int .i64 p, .int .i64 q]] w fun e w' => e = .returned (.agg #[.int .i64 A, .int .i64 B, .int .i64 C, .int .i64 D]) ∧ Below w.heap.size w w' := by
  obtain ⟨hg, q0⟩ := low_gcd h
  clear h
  cases hm with
  | inf hq =>
    subst hq
    go_enter Try.func23, Try.ntmps23
    go_wp2_with (first
      | (go_at_call 42; ((with_reducible refine (one_any _).mono ?_); rintro e w1 ⟨rfl, hb⟩; have V : Hid (Four w1 (w.heap.size + 1) 0 0 0 0) := (Four.at (w.alloc _) (by simp) 0 0 0 0).below hb; have HB : Hid (Below w.heap.size w w1) := (below2 w _ _).trans (hb.mono (by simp; omega)); have f := V.out.free; have hc := V.out.cells; obtain ⟨c1, c2, c3, c4⟩ := hc; have hz := V.out.lt; clear hb))
      | fail)
    have HZ := (V.out.set 1 0 0 1)
    have hc := HZ.cells
    obtain ⟨d1, d2, d3, d4⟩ := hc
    refine bodyPost_ret (v := .agg #[.int .i64 1, .int .i64 0, .int .i64 0, .int .i64 1]) ?_ rfl ⟨rfl, ?_⟩
    · simp [results, Try.results23, go_sem, d1, d2, d3, d4]
    · exact below_set4 HB.out (by omega) _ _ _ _
  | fin _ q1 hd =>
    obtain ⟨m1, m2, m3, m4, _, m5⟩ := MatIs.fin_b q1 q2 p1 p2 hd
    have HNO : Hid (∀ t, 0 ≤ t → t < D → ¬ (p * t - 1) % q = 0) := fun t h0 h1 h2 => by
      have := (LeastInv.mk h0 (by have := hd.hi; omega) (Int.dvd_of_emod_eq_zero h2)).unique hd hg
      omega
    have HYE : Hid ((p * D - 1) % q = 0) := Int.emod_eq_zero_of_dvd hd.dvd
    have d0 := hd.lo
    have d1 := hd.hi
    have hq0 : (q == 0) = false := by simp; omega
    clear hg hd q0
    go_enter Try.func23, Try.ntmps23
    go_wp2
    go_loopw [3] (fun i wr => ∃ t : Int, i = .int .i64 t ∧ 0 ≤ t ∧ t ≤ D ∧ Hid (wr = (w.alloc (.cells #[.int .i64 p, .int .i64 q] 23)).alloc (.cells #[.int .i64 0, .int .i64 0, .int .i64 0, .int .i64 0] 26))) (fun i _ => (D - intOf i).toNat)
    case atStart => exact ⟨0, rfl, by omega, by omega, rfl⟩
    case round =>
      obtain ⟨t, rfl, t1, t2, HWr⟩ := hrel
      have hwr := HWr.out
      subst hwr
      clear HWr
      have e1 : -(1000 * t) ≤ p * t := by have := Int.mul_le_mul_of_nonneg_right p1 t1; omega
      have e2 : p * t ≤ 1000 * t := by have := Int.mul_le_mul_of_nonneg_right p2 t1; omega
      have HM := Lib.hid (fun W => mod_any (p * t - 1) q W (by omega) (by omega) q1 q2)
      by_cases ht : t < D
      · have hnd := HNO.out t t1 ht
        clear HNO HYE
        go_wp2_with (first
          | (go_at_call 43; ((with_reducible refine (HM.out _).mono ?_); rintro e w1 ⟨rfl, rfl⟩))
          | fail)
        go_roundw
        case rel => exact ⟨t + 1, rfl, by omega, by omega, by show True; trivial⟩
        case measure => simp [intOf]; omega
      · obtain rfl : t = D := by omega
        have hy := HYE.out
        rw [hy] at HM
        clear HNO HYE ht
        go_upto_region 6 with (first
          | (go_at_call 43; ((with_reducible refine (HM.out _).mono ?_); rintro e w1 ⟨rfl, rfl⟩))
          | fail)
        go_region
        go_wp2
        refine bodyPost_ret (v := .agg #[.int .i64 p, .int .i64 ((p * t - 1) / q), .int .i64 q, .int .i64 t]) ?_ rfl ⟨rfl, ?_⟩
        · simp [results, Try.results23, go_sem, *]
        · exact (below2 _ _ _).drew
end Go.Proofs.Ytcjkdcbminpjlaa
