/- Contracts of powMod, PowMod, Inverse, and of the reference's Phi. -/
import Derived.Test.YtoeailhcobbhjaaOrdLoop
namespace Go.Proofs.Ytoeailhcobbhjaa
open Go.RowKit

set_option maxHeartbeats 1600000 in
set_option maxRecDepth 1000000 in
theorem powMod_any (a m : Int) (n : Nat) (w : World) (h1 : 0 ≤ a) (h2 : a < m) (m1 : 1 ≤ m) (m2 : m ≤ 2147483647) (hn : (n : Int) ≤ 9223372036854775807) :
    Calls Try.prog 75 #[.int .i64 a, .int .i64 n, .int .i64 m] w fun e w' => e = .returned (.int .i64 (a ^ n % m)) ∧ w = w' := by
  have h3 := Int.emod_nonneg 1 (show m ≠ 0 by omega)
  have h4 := Int.emod_lt_of_pos 1 (show 0 < m by omega)
  have H0 : Hid (m ∣ (1 % m) * a ^ n - a ^ n) := by
    have := dvd_mul_sub (dvd_emod_sub 1 m) (show m ∣ a ^ n - a ^ n by simp)
    rwa [Int.one_mul] at this
  go_enter Try.func75, Try.ntmps75
  go_wp2
  go_loop [0, 1, 7] (fun X N O => ∃ (k : Nat) (o x : Int), N = .int .i64 k ∧ O = .int .i64 o ∧ X = .int .i64 x ∧ (k : Int) ≤ 9223372036854775807 ∧ (0 ≤ o ∧ o < m) ∧ (0 ≤ x ∧ x < m) ∧ Hid (m ∣ o * x ^ k - a ^ n)) (fun _ N _ => (intOf N).toNat)
  case atStart => exact ⟨n, 1 % m, a, rfl, rfl, rfl, hn, ⟨h3, h4⟩, ⟨h1, h2⟩, H0.out⟩
  case round =>
    obtain ⟨k, o, x, rfl, rfl, rfl, hk, ⟨o1, o2⟩, ⟨x1, x2⟩, HD⟩ := hrel
    by_cases hz : k = 0
    · subst hz
      have HR : Hid (o = a ^ n % m) := emod_of_dvd o1 o2 (by have := HD.out; rwa [Int.pow_zero, Int.mul_one] at this)
      go_wp2
      go_ret
      exact ⟨ret_int' HR.out, rfl⟩
    · have hk0 : 0 < (k : Int) := by omega
      have b1 : 0 ≤ o * x := Int.mul_nonneg o1 x1
      have b2 : o * x ≤ 2147483647 * 2147483647 := Int.mul_le_mul (by omega) (by omega) x1 (by omega)
      have b3 : 0 ≤ x * x := Int.mul_nonneg x1 x1
      have b4 : x * x ≤ 2147483647 * 2147483647 := Int.mul_le_mul (by omega) (by omega) x1 (by omega)
      have c1 := Int.emod_nonneg (o * x) (show m ≠ 0 by omega)
      have c2 := Int.emod_lt_of_pos (o * x) (show 0 < m by omega)
      have c3 := Int.emod_nonneg (x * x) (show m ≠ 0 by omega)
      have c4 := Int.emod_lt_of_pos (x * x) (show 0 < m by omega)
      have HS := Lib.hid (pow_step HD.out)
      by_cases hodd : k % 2 = 1
      · have e1 : ((k : Int) % 2 == 1) = true := by rw [beq_iff_eq]; omega
        have HS2 := Lib.hid (HS.out.1 hodd)
        clear hodd
        go_wp2
        go_round
        case rel => exact ⟨k / 2, o * x % m, x * x % m, by go_num, rfl, rfl, by omega, ⟨c1, c2⟩, ⟨c3, c4⟩, HS2.out⟩
        case measure => simp [intOf]; omega
      · have e1 : ((k : Int) % 2 == 1) = false := by rw [beq_eq_false_iff_ne]; omega
        have HS2 := Lib.hid (HS.out.2 (by omega))
        clear hodd
        go_wp2
        go_round
        case rel => exact ⟨k / 2, o, x * x % m, by go_num, rfl, rfl, by omega, ⟨o1, o2⟩, ⟨c3, c4⟩, HS2.out⟩
        case measure => simp [intOf]; omega
theorem pow_emod (a m : Int) (n : Nat) (m1 : 1 ≤ m) : (a % m) ^ n % m = a ^ n % m := by
  have h := dvd_pow_sub (dvd_emod_sub a m) n
  have e := emod_of_dvd (m := m) (o := (a % m) ^ n % m) (y := a ^ n) (Int.emod_nonneg _ (by omega)) (Int.emod_lt_of_pos _ (by omega)) (dvd_sub_trans (dvd_emod_sub _ m) h)
  exact e
theorem powModX_yes (a m : Int) (n : Nat) (w : World) (m1 : 1 ≤ m) (m2 : m ≤ 2147483647) (hn : (n : Int) ≤ 9223372036854775807) :
    Calls Try.prog 46 #[.int .i64 a, .int .i64 n, .int .i64 m] w fun e w' => e = .returned (.tuple #[.int .i64 (a ^ n % m), .int .i64 0]) ∧ w = w' := by
  have h1 := Int.emod_nonneg a (show m ≠ 0 by omega)
  have h2 := Int.emod_lt_of_pos a (show 0 < m by omega)
  have HP := Lib.hid (fun W => powMod_any (a % m) m n W h1 h2 m1 m2 hn)
  have HE := Lib.hid (pow_emod a m n m1)
  go_enter Try.func46, Try.ntmps46
  go_wp2_with (first
    | (go_at_call 59; ((with_reducible refine (inRange_yes _ _ m1 m2).mono ?_); rintro e w' ⟨rfl, rfl⟩))
    | (go_at_call 71; ((with_reducible refine (residue_any _ _ _ m1 (by omega)).mono ?_); rintro e w' ⟨rfl, rfl⟩))
    | (go_at_call 75; ((with_reducible refine (HP.out _).mono ?_); rintro e w' ⟨rfl, rfl⟩)))
  go_ret2
  exact ⟨by rw [HE.out]; rfl, rfl⟩
theorem powModX_no (a n m : Int) (w : World) (h : (m < 1 ∨ 2147483647 < m) ∨ n < 0) :
    Calls Try.prog 46 #[.int .i64 a, .int .i64 n, .int .i64 m] w fun e w' => e = .returned (.tuple #[.int .i64 0, .int .i64 2]) ∧ w = w' := by
  by_cases hm : m < 1 ∨ 2147483647 < m
  · clear h
    go_enter Try.func46, Try.ntmps46
    go_wp2_with (first
      | (go_at_call 59; ((with_reducible refine (inRange_no _ _ hm).mono ?_); rintro e w' ⟨rfl, rfl⟩)))
    go_ret2
    exact ⟨rfl, rfl⟩
  · have m1 : 1 ≤ m := by omega
    have m2 : m ≤ 2147483647 := by omega
    have hn : n < 0 := by omega
    clear h hm
    go_enter Try.func46, Try.ntmps46
    go_wp2_with (first
      | (go_at_call 59; ((with_reducible refine (inRange_yes _ _ m1 m2).mono ?_); rintro e w' ⟨rfl, rfl⟩)))
    go_ret2
    exact ⟨rfl, rfl⟩
theorem inverse_yes (a m : Int) (w : World) (m1 : 1 ≤ m) (m2 : m ≤ 2147483647) :
    Calls Try.prog 44 #[.int .i64 a, .int .i64 m] w fun e w' => ∃ u e0 : Int, e = .returned (.tuple #[.int .i64 u, .int .i64 e0]) ∧ InvIs a m u e0 ∧ w = w' := by
  have h1 := Int.emod_nonneg a (show m ≠ 0 by omega)
  have h2 := Int.emod_lt_of_pos a (show 0 < m by omega)
  have HD := Lib.hid (fun W => divisor_any (a % m) m W (by omega) (by omega) (by omega) (by omega) (by omega))
  by_cases hg : Int.gcd (a % m) m = 1
  · have HG := Lib.hid hg
    rw [hg] at HD
    clear hg
    go_enter Try.func44, Try.ntmps44
    go_wp2_with (first
      | (go_at_call 59; ((with_reducible refine (inRange_yes _ _ m1 m2).mono ?_); rintro e w' ⟨rfl, rfl⟩))
      | (go_at_call 71; ((with_reducible refine (residue_any _ _ _ m1 (by omega)).mono ?_); rintro e w' ⟨rfl, rfl⟩))
      | (go_at_call 57; ((with_reducible refine (HD.out _).mono ?_); rintro e w' ⟨u, rfl, hu, rfl⟩; have HU := Lib.hid hu; clear hu)))
    go_ret2
    exact ⟨_, _, rfl, .inl ⟨HG.out, rfl, HU.out⟩, rfl⟩
  · have HG := Lib.hid hg
    have hg2 : ((Int.gcd (a % m) m : Int) != 1) = true := by rw [bne_iff_ne]; omega
    clear hg
    go_enter Try.func44, Try.ntmps44
    go_wp2_with (first
      | (go_at_call 59; ((with_reducible refine (inRange_yes _ _ m1 m2).mono ?_); rintro e w' ⟨rfl, rfl⟩))
      | (go_at_call 71; ((with_reducible refine (residue_any _ _ _ m1 (by omega)).mono ?_); rintro e w' ⟨rfl, rfl⟩))
      | (go_at_call 57; ((with_reducible refine (HD.out _).mono ?_); rintro e w' ⟨u, rfl, hu, rfl⟩; clear hu)))
    go_ret2
    exact ⟨_, _, rfl, .inr ⟨HG.out, rfl, rfl⟩, rfl⟩
theorem inverse_no (a m : Int) (w : World) (h : m < 1 ∨ 2147483647 < m) :
    Calls Try.prog 44 #[.int .i64 a, .int .i64 m] w fun e w' => e = .returned (.tuple #[.int .i64 0, .int .i64 2]) ∧ w = w' := by
  go_enter Try.func44, Try.ntmps44
  go_wp2_with (first
    | (go_at_call 59; ((with_reducible refine (inRange_no _ _ h).mono ?_); rintro e w' ⟨rfl, rfl⟩)))
  go_ret2
  exact ⟨rfl, rfl⟩
theorem refInverse_no (a m : Int) (w : World) (h : m < 1 ∨ 2147483647 < m) :
    Calls Try.prog 45 #[.int .i64 a, .int .i64 m] w fun e w' => e = .returned (.tuple #[.int .i64 0, .int .i64 2]) ∧ w = w' := by
  go_enter Try.func45, Try.ntmps45
  go_wp2_with (first
    | (go_at_call 27; ((with_reducible refine (refInRange_no _ _ h).mono ?_); rintro e w' ⟨rfl, rfl⟩)))
  go_ret2
  exact ⟨rfl, rfl⟩
theorem InvIs.unique {a m u e u' e' : Int} (hm : 1 ≤ m) (h : InvIs a m u e) (k : InvIs a m u' e') : u = u' ∧ e = e' := by
  rcases h with ⟨h1, h2, h3⟩ | ⟨h1, h2, h3⟩
  · rcases k with ⟨k1, k2, k3⟩ | ⟨k1, k2, k3⟩
    · refine ⟨?_, by omega⟩
      have h4 : IsU (a % m) m (Int.gcd (a % m) m) u := by rw [h1]; exact h3
      have k4 : IsU (a % m) m (Int.gcd (a % m) m) u' := by rw [h1]; exact k3
      exact IsU.unique (by omega) h4 k4
    · exact absurd h1 k1
  · rcases k with ⟨k1, k2, k3⟩ | ⟨k1, k2, k3⟩
    · exact absurd k1 h1
    · exact ⟨by omega, by omega⟩
end Go.Proofs.Ytoeailhcobbhjaa
