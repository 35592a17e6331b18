/- The contracts of both AtkinLehners. -/
import Derived.Test.YtoledgfclmddmaaInvL
import Derived.Test.YtoledgfclmddmaaCsL
namespace Go.Proofs.Ytoledgfclmddmaa
open Go.RowKit

/-- The error of a level. -/
def lvI (n : Int) : Int := if n < 1 ∨ 120 < n then 2 else 0
theorem lv_no {n : Int} (h : n < 1 ∨ 120 < n) : lvI n = 2 := if_pos h
theorem lv_yes {n : Int} (h1 : 1 ≤ n) (h2 : n ≤ 120) : lvI n = 0 := if_neg (by omega)
theorem check0_any (n : Int) (w : World) : Calls Try.prog 30 #[.int .i64 n, .slice none 0 0] w fun e w' => e = .returned (.int .i64 (lvI n)) ∧ w = w' := by
  by_cases h1 : n < 1
  · rw [lv_no (.inl h1)]
    go_enter Try.func30, Try.ntmps30
    go_wp2
    go_ret
    exact ⟨rfl, rfl⟩
  by_cases h2 : 120 < n
  · rw [lv_no (.inr h2)]
    go_enter Try.func30, Try.ntmps30
    go_wp2
    go_ret
    exact ⟨rfl, rfl⟩
  · rw [lv_yes (by omega) (by omega)]
    go_enter Try.func30, Try.ntmps30
    go_wp2
    refine wp_loop_rounds 1 ?_
    rw [rounds_succ]
    go_wp2
    go_ret
    exact ⟨rfl, rfl⟩
theorem level_any (n : Int) (w : World) : Calls Try.prog 34 #[.int .i64 n] w fun e w' => e = .returned (.int .i64 (lvI n)) ∧ w = w' := by
  by_cases h1 : n < 1
  · rw [lv_no (.inl h1)]
    go_enter Try.func34, Try.ntmps34
    go_wp2
    go_ret
    exact ⟨rfl, rfl⟩
  by_cases h2 : 120 < n
  · rw [lv_no (.inr h2)]
    go_enter Try.func34, Try.ntmps34
    go_wp2
    go_ret
    exact ⟨rfl, rfl⟩
  · rw [lv_yes (by omega) (by omega)]
    go_enter Try.func34, Try.ntmps34
    go_wp2
    go_ret
    exact ⟨rfl, rfl⟩
/-- x is the least number with q x = 1 modulo m. -/
structure LeastInv (q m x : Int) : Prop where
  lo : 0 ≤ x
  hi : x < m
  dvd : m ∣ q * x - 1
theorem LeastInv.unique {q m x y : Int} (h : LeastInv q m x) (k : LeastInv q m y) (hg : Int.gcd q m = 1) : x = y := by
  have hd : m ∣ q * (x - y) := by
    have := Int.dvd_sub h.dvd k.dvd
    rwa [show q * x - 1 - (q * y - 1) = q * (x - y) by rw [Int.mul_sub]; omega] at this
  have h2 : m ∣ x - y := by
    have h3 := Int.natAbs_dvd_natAbs.2 hd
    rw [Int.natAbs_mul] at h3
    have hc : Nat.Coprime m.natAbs q.natAbs := by show Nat.gcd _ _ = 1; rw [Nat.gcd_comm]; exact hg
    exact Int.natAbs_dvd_natAbs.1 (hc.dvd_of_dvd_mul_left h3)
  obtain ⟨c, hc⟩ := h2
  have := h.lo
  have := h.hi
  have := k.lo
  have := k.hi
  rcases Int.lt_trichotomy c 0 with e | e | e
  · have := Int.mul_le_mul_of_nonneg_left (show c ≤ -1 by omega) (show 0 ≤ m by omega); omega
  · subst e; omega
  · have := Int.mul_le_mul_of_nonneg_left (show 1 ≤ c by omega) (show 0 ≤ m by omega); omega
/-- What AtkinLehner answers. -/
inductive AtkE (n q : Int) : Int → Int → Int → Int → Int → Prop
  | lev : (n < 1 ∨ 120 < n) → AtkE n q 0 0 0 0 2
  | div : 1 ≤ n → n ≤ 120 → (q < 1 ∨ ¬ n % q = 0) → AtkE n q 0 0 0 0 2
  | cop : 1 ≤ n → n ≤ 120 → 1 ≤ q → n % q = 0 → ¬ Int.gcd q (n / q) = 1 → AtkE n q 0 0 0 0 9
  | yes (x : Int) : 1 ≤ n → n ≤ 120 → 1 ≤ q → n % q = 0 → Int.gcd q (n / q) = 1 → LeastInv q (n / q) x → AtkE n q (q * x) ((q * x - 1) / (n / q)) n q 0
def AtkRet (n q : Int) (w : World) (e : Ending) (w' : World) : Prop :=
  ∃ a b c d k, AtkE n q a b c d k ∧ e = .returned (.tuple #[.agg #[.int .i64 a, .int .i64 b, .int .i64 c, .int .i64 d], .int .i64 k]) ∧ Below w.heap.size w w'
theorem inv_least {q m u e : Int} (hm : 1 ≤ m) (h : InvIs q m u e) : (Int.gcd q m = 1 ∧ e = 0 ∧ LeastInv q m u) ∨ (¬ Int.gcd q m = 1 ∧ e = 9) := by
  have hg : Int.gcd (q % m) m = Int.gcd q m := by
    have e := Int.mul_ediv_add_emod q m
    conv => rhs; rw [← e, Int.add_comm, Int.gcd_add_mul_left_left]
  rcases h with ⟨h1, rfl, ⟨hd, hl, hh⟩⟩ | ⟨h1, rfl, _⟩
  · refine .inl ⟨by rw [← hg]; exact h1, rfl, hl, ?_, ?_⟩
    · rw [Nat.div_one] at hh; omega
    · have e := Int.mul_ediv_add_emod q m
      have h2 : m ∣ u * (q % m) - 1 := by simpa using hd
      have h3 : q * u - 1 = (u * (q % m) - 1) + m * (q / m * u) := by
        conv => lhs; rw [← e]
        rw [Int.add_mul, Int.mul_assoc, Int.mul_comm (q % m) u]; omega
      rw [h3]
      exact Int.dvd_add h2 (Int.dvd_mul_right _ _)
  · exact .inr ⟨by rw [← hg]; exact h1, rfl⟩
set_option maxHeartbeats 1600000 in
set_option maxRecDepth 1000000 in
theorem atkin_any (n q : Int) (w : World) : Calls Try.prog 21 #[.int .i64 n, .int .i64 q] w (AtkRet n q w) := by
  have HC := Lib.hid (fun W => check0_any n W)
  by_cases hl : n < 1 ∨ 120 < n
  · have HE : Hid (AtkE n q 0 0 0 0 2) := .lev hl
    rw [lv_no hl] at HC
    clear hl
    go_enter Try.func21, Try.ntmps21
    go_wp2_with (first
      | (go_at_call 30; ((with_reducible refine (HC.out _).mono ?_); rintro e w1 ⟨rfl, rfl⟩))
      | fail)
    refine bodyPost_ret (v := .tuple #[.agg #[.int .i64 0, .int .i64 0, .int .i64 0, .int .i64 0], .int .i64 2]) ?_ rfl ⟨0, 0, 0, 0, 2, HE.out, rfl, ?_⟩
    · simp [results, Try.results21, go_sem, *]
    · exact below1 _ _
  have n1 : 1 ≤ n := by omega
  have n2 : n ≤ 120 := by omega
  rw [lv_yes n1 n2] at HC
  by_cases hq : q < 1
  · have HE : Hid (AtkE n q 0 0 0 0 2) := .div n1 n2 (.inl hq)
    clear hl
    go_enter Try.func21, Try.ntmps21
    go_wp2_with (first
      | (go_at_call 30; ((with_reducible refine (HC.out _).mono ?_); rintro e w1 ⟨rfl, rfl⟩))
      | fail)
    refine bodyPost_ret (v := .tuple #[.agg #[.int .i64 0, .int .i64 0, .int .i64 0, .int .i64 0], .int .i64 2]) ?_ rfl ⟨0, 0, 0, 0, 2, HE.out, rfl, ?_⟩
    · simp [results, Try.results21, go_sem, *]
    · exact below1 _ _
  have q1 : 1 ≤ q := by omega
  by_cases hd : n % q = 0
  · have hq2 : q ≤ n := Int.le_of_dvd (by omega) (Int.dvd_of_emod_eq_zero hd)
    have hm1 : 1 ≤ n / q := (Int.le_ediv_iff_mul_le (by omega)).2 (by omega)
    have hm2 : n / q ≤ n := Int.ediv_le_self q (by omega)
    have HI : Hid (∀ u e, InvIs q (n / q) u e → (Int.gcd q (n / q) = 1 ∧ e = 0 ∧ LeastInv q (n / q) u) ∨ (¬ Int.gcd q (n / q) = 1 ∧ e = 9)) := fun u e h => inv_least hm1 h
    have HY : Hid (∀ x, Int.gcd q (n / q) = 1 → LeastInv q (n / q) x → AtkE n q (q * x) ((q * x - 1) / (n / q)) n q 0) := fun x h1 h2 => .yes x n1 n2 q1 hd h1 h2
    have HN : Hid (¬ Int.gcd q (n / q) = 1 → AtkE n q 0 0 0 0 9) := fun h => .cop n1 n2 q1 hd h
    have HV := Lib.hid (fun W => inverse_yes q (n / q) W hm1 (by omega))
    clear hl hq
    go_enter Try.func21, Try.ntmps21
    go_upto_region 7 with (first
      | (go_at_call 30; ((with_reducible refine (HC.out _).mono ?_); rintro e w1 ⟨rfl, rfl⟩))
      | (go_at_call 41; ((with_reducible refine (HV.out _).mono ?_); rintro e w1 ⟨u, k, rfl, hi, rfl⟩; have HIS := Lib.hid hi; clear hi))
      | fail)
    rcases HI.out u k HIS.out with ⟨h1, rfl, h3⟩ | ⟨h1, rfl⟩
    · have HE := Lib.hid (HY.out u h1 h3)
      have u1 := h3.lo
      have u2 := h3.hi
      have hdv : (n / q) ∣ q * u - 1 := h3.dvd
      have p1 : 0 ≤ q * u := Int.mul_nonneg (by omega) u1
      have p2 : q * u ≤ 120 * 120 := Int.mul_le_mul (by omega) (by omega) u1 (by omega)
      have ht : (q * u - 1).tdiv (n / q) = (q * u - 1) / (n / q) := Int.tdiv_eq_ediv_of_dvd hdv
      have p3 : -1 ≤ (q * u - 1) / (n / q) := (Int.le_ediv_iff_mul_le (by omega)).2 (by omega)
      have p4 : (q * u - 1) / (n / q) ≤ 14400 := by
        rcases Int.lt_or_le (q * u - 1) 0 with c | c
        · have := Int.ediv_neg_of_neg_of_pos c (show 0 < n / q by omega); omega
        · exact Int.le_trans (Int.ediv_le_self _ c) (by omega)
      clear h1 h3 hdv HI HY HN HIS
      go_wp2
      refine bodyPost_ret (v := .tuple #[.agg #[.int .i64 (q * u), .int .i64 ((q * u - 1) / (n / q)), .int .i64 n, .int .i64 q], .int .i64 0]) ?_ rfl ⟨_, _, _, _, 0, HE.out, rfl, ?_⟩
      · simp [results, Try.results21, go_sem, *]
      · exact below1 _ _
    · have HE := Lib.hid (HN.out h1)
      clear h1 HI HY HN HIS
      go_wp2
      refine bodyPost_ret (v := .tuple #[.agg #[.int .i64 0, .int .i64 0, .int .i64 0, .int .i64 0], .int .i64 9]) ?_ rfl ⟨_, _, _, _, 9, HE.out, rfl, ?_⟩
      · simp [results, Try.results21, go_sem, *]
      · exact below1 _ _
  · have HE : Hid (AtkE n q 0 0 0 0 2) := .div n1 n2 (.inr hd)
    have hd2 : (n % q != 0) = true := by simpa using hd
    clear hl hq
    go_enter Try.func21, Try.ntmps21
    go_wp2_with (first
      | (go_at_call 30; ((with_reducible refine (HC.out _).mono ?_); rintro e w1 ⟨rfl, rfl⟩))
      | fail)
    refine bodyPost_ret (v := .tuple #[.agg #[.int .i64 0, .int .i64 0, .int .i64 0, .int .i64 0], .int .i64 2]) ?_ rfl ⟨0, 0, 0, 0, 2, HE.out, rfl, ?_⟩
    · simp [results, Try.results21, go_sem, *]
    · exact below1 _ _
end Go.Proofs.Ytoledgfclmddmaa
