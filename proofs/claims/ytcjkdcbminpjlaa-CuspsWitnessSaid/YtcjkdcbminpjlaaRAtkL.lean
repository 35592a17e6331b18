/- The contract of the reference's AtkinLehner. -/
import Derived.Test.YtcjkdcbminpjlaaAtkL
namespace Go.Proofs.Ytcjkdcbminpjlaa
open Go.RowKit

theorem AtkE.unique {n q a b c d k a' b' c' d' k' : Int} (h : AtkE n q a b c d k) (h' : AtkE n q a' b' c' d' k') : a = a' ∧ b = b' ∧ c = c' ∧ d = d' ∧ k = k' := by
  cases h <;> cases h' <;> (try (simp at *; done)) <;> (try omega)
  all_goals (try (exact ⟨rfl, rfl, rfl, rfl, rfl⟩))
  rename_i x _ _ _ _ hg hx y _ _ _ _ _ hy
  have := hx.unique hy hg
  subst this
  exact ⟨rfl, rfl, rfl, rfl, rfl⟩
set_option maxHeartbeats 1600000 in
set_option maxRecDepth 1000000 in
theorem ratkin_at {n q a b c d k : Int} (w : World) (h : AtkE n q a b c d k) : Calls Try.prog 12 #[.int .i64 n, .int .i64 q] w fun e w' => e = .returned (.tuple #[.agg #[.int .i64 a, .int .i64 b, .int .i64 c, .int .i64 d], .int .i64 k]) ∧ Below w.heap.size w w' := by
  have HC := Lib.hid (fun W => level_any n W)
  cases h with
  | lev h =>
    rw [lv_no h] at HC
    clear h
    go_enter Try.func12, Try.ntmps12
    go_wp2_with (first
      | (go_at_call 20; ((with_reducible refine (HC.out _).mono ?_); rintro e w1 ⟨rfl, rfl⟩))
      | fail)
    refine bodyPost_ret (v := .tuple #[.agg #[.int .i64 0, .int .i64 0, .int .i64 0, .int .i64 0], .int .i64 2]) ?_ rfl ⟨rfl, ?_⟩
    · simp [results, Try.results12, go_sem, *]
    · exact below1 _ _
  | div n1 n2 h =>
    rw [lv_yes n1 n2] at HC
    by_cases hq : q < 1
    · clear h
      go_enter Try.func12, Try.ntmps12
      go_wp2_with (first
        | (go_at_call 20; ((with_reducible refine (HC.out _).mono ?_); rintro e w1 ⟨rfl, rfl⟩))
        | fail)
      refine bodyPost_ret (v := .tuple #[.agg #[.int .i64 0, .int .i64 0, .int .i64 0, .int .i64 0], .int .i64 2]) ?_ rfl ⟨rfl, ?_⟩
      · simp [results, Try.results12, go_sem, *]
      · exact below1 _ _
    · have q1 : 1 ≤ q := by omega
      have hd : ¬ n % q = 0 := by rcases h with h | h; exact absurd h hq; exact h
      have hd2 : (n % q != 0) = true := by simpa using hd
      clear h hq
      go_enter Try.func12, Try.ntmps12
      go_wp2_with (first
        | (go_at_call 20; ((with_reducible refine (HC.out _).mono ?_); rintro e w1 ⟨rfl, rfl⟩))
        | fail)
      refine bodyPost_ret (v := .tuple #[.agg #[.int .i64 0, .int .i64 0, .int .i64 0, .int .i64 0], .int .i64 2]) ?_ rfl ⟨rfl, ?_⟩
      · simp [results, Try.results12, go_sem, *]
      · exact below1 _ _
  | cop n1 n2 q1 hd hg =>
    rw [lv_yes n1 n2] at HC
    have hq2 : q ≤ n := Int.le_of_dvd (by omega) (Int.dvd_of_emod_eq_zero hd)
    have hm1 : 1 ≤ n / q := (Int.le_ediv_iff_mul_le (by omega)).2 (by omega)
    have hm2 : n / q ≤ n := Int.ediv_le_self q (by omega)
    have HG := Lib.hid (fun W => rGcd_any q (n / q) W (mid_of (by omega) (by omega)) (mid_of (by omega) (by omega)))
    have hg2 : ((Int.gcd q (n / q) : Int) != 1) = true := by rw [bne_iff_ne]; omega
    clear hg
    go_enter Try.func12, Try.ntmps12
    go_wp2_with (first
      | (go_at_call 20; ((with_reducible refine (HC.out _).mono ?_); rintro e w1 ⟨rfl, rfl⟩))
      | (go_at_call 33; ((with_reducible refine (HG.out _).mono ?_); rintro e w1 ⟨rfl, m0, rfl⟩))
      | fail)
    refine bodyPost_ret (v := .tuple #[.agg #[.int .i64 0, .int .i64 0, .int .i64 0, .int .i64 0], .int .i64 9]) ?_ rfl ⟨rfl, ?_⟩
    · simp [results, Try.results12, go_sem, *]
    · exact below_set4 (below_drewN (below1 _ _) _) (Nat.le_refl _) _ _ _ _
  | yes x n1 n2 q1 hd hg hx =>
    rw [lv_yes n1 n2] at HC
    have hq2 : q ≤ n := Int.le_of_dvd (by omega) (Int.dvd_of_emod_eq_zero hd)
    have hm1 : 1 ≤ n / q := (Int.le_ediv_iff_mul_le (by omega)).2 (by omega)
    have hm2 : n / q ≤ n := Int.ediv_le_self q (by omega)
    have HG := Lib.hid (fun W => rGcd_any q (n / q) W (mid_of (by omega) (by omega)) (mid_of (by omega) (by omega)))
    rw [hg] at HG
    have HNO : Hid (∀ t, 0 ≤ t → t < x → ¬ (n / q) ∣ q * t - 1) := fun t h0 h1 h2 => by
      have := (LeastInv.mk h0 (by have := hx.hi; omega) h2).unique hx hg
      omega
    have HX := Lib.hid hx
    have x1 := hx.lo
    have x2 := hx.hi
    clear hg hx
    go_enter Try.func12, Try.ntmps12
    go_wp2_with (first
      | (go_at_call 20; ((with_reducible refine (HC.out _).mono ?_); rintro e w1 ⟨rfl, rfl⟩))
      | (go_at_call 33; ((with_reducible refine (HG.out _).mono ?_); rintro e w1 ⟨rfl, m0, rfl⟩))
      | fail)
    go_loop [7] (fun i => ∃ t : Int, i = .int .i64 t ∧ 0 ≤ t ∧ t ≤ x) (fun i => (x - intOf i).toNat)
    case atStart => exact ⟨0, rfl, by omega, by omega⟩
    case round =>
      obtain ⟨t, rfl, t1, t2⟩ := hrel
      have p1 : 0 ≤ q * t := Int.mul_nonneg (by omega) t1
      have p2 : q * t ≤ 120 * 120 := Int.mul_le_mul (by omega) (by omega) t1 (by omega)
      by_cases ht : t < x
      · have hnd := HNO.out t t1 ht
        have hb : ((q * t - 1).tmod (n / q) != 0) = true := by
          rw [bne_iff_ne]
          exact fun h => hnd (Int.dvd_of_tmod_eq_zero h)
        clear hnd
        go_wp2
        go_round
        case rel => exact ⟨t + 1, rfl, by omega, by omega⟩
        case measure => simp [intOf]; omega
      · obtain rfl : t = x := by omega
        have hdv : (n / q) ∣ q * t - 1 := HX.out.dvd
        have hb : ((q * t - 1).tmod (n / q)) = 0 := Int.tmod_eq_zero_of_dvd hdv
        have ht' : (q * t - 1).tdiv (n / q) = (q * t - 1) / (n / q) := Int.tdiv_eq_ediv_of_dvd hdv
        have p3 : -1 ≤ (q * t - 1) / (n / q) := (Int.le_ediv_iff_mul_le (by omega)).2 (by omega)
        have p4 : (q * t - 1) / (n / q) ≤ 14400 := by
          rcases Int.lt_or_le (q * t - 1) 0 with c | c
          · have := Int.ediv_neg_of_neg_of_pos c (show 0 < n / q by omega); omega
          · exact Int.le_trans (Int.ediv_le_self _ c) (by omega)
        clear hdv ht HNO
        go_wp2
        refine bodyPost_ret (v := .tuple #[.agg #[.int .i64 (q * t), .int .i64 ((q * t - 1) / (n / q)), .int .i64 n, .int .i64 q], .int .i64 0]) ?_ rfl ⟨rfl, ?_⟩
        · simp [results, Try.results12, go_sem, *]
        · exact below_set4 (below_drewN (below1 _ _) _) (Nat.le_refl _) _ _ _ _
end Go.Proofs.Ytcjkdcbminpjlaa
