/- Contracts of halfplaneref03's Power and two. -/
import Derived.Test.YtoeailhcobbhjaaCrt
import Derived.Test.YtoeailhcobbhjaaKronC
namespace Go.Proofs.Ytoeailhcobbhjaa
open Go.RowKit

theorem dvd_mul_sub {m a b c d : Int} (h : m ∣ a - b) (k : m ∣ c - d) : m ∣ a * c - b * d := by
  have e : a * c - b * d = (a - b) * c + b * (c - d) := by grind
  rw [e]
  exact Int.dvd_add (Int.dvd_mul_of_dvd_left h) (Int.dvd_mul_of_dvd_right k)
theorem dvd_pow_sub {m a b : Int} (h : m ∣ a - b) (k : Nat) : m ∣ a ^ k - b ^ k := by
  induction k with
  | zero => simp
  | succ k ih => rw [Int.pow_succ, Int.pow_succ]; exact dvd_mul_sub ih h
theorem emod_of_dvd {m o y : Int} (h0 : 0 ≤ o) (h1 : o < m) (h : m ∣ o - y) : o = y % m := by
  obtain ⟨t, ht⟩ := h
  have : y = o + m * (-t) := by rw [Int.mul_neg]; omega
  rw [this, Int.add_mul_emod_self_left, Int.emod_eq_of_lt h0 h1]
theorem dvd_sub_trans {m a b c : Int} (h : m ∣ a - b) (k : m ∣ b - c) : m ∣ a - c := by
  have := Int.dvd_add h k
  rwa [show a - b + (b - c) = a - c by omega] at this
theorem pow_step {m o x : Int} {k : Nat} {y : Int} (h : m ∣ o * x ^ k - y) :
    (k % 2 = 1 → m ∣ (o * x % m) * (x * x % m) ^ (k / 2) - y) ∧ (k % 2 = 0 → m ∣ o * (x * x % m) ^ (k / 2) - y) := by
  have e1 : m ∣ (x * x % m) ^ (k / 2) - (x * x) ^ (k / 2) := dvd_pow_sub (dvd_emod_sub _ _) _
  constructor
  · intro hk
    have e2 : o * x ^ k = (o * x) * (x * x) ^ (k / 2) := by
      conv => lhs; rw [show k = 2 * (k / 2) + 1 by omega, Int.pow_succ, Int.pow_mul]
      rw [show x ^ 2 = x * x by rw [Int.pow_succ, Int.pow_succ, Int.pow_zero, Int.one_mul]]
      grind
    rw [e2] at h
    exact dvd_sub_trans (dvd_mul_sub (dvd_emod_sub (o * x) m) e1) h
  · intro hk
    have e2 : o * x ^ k = o * (x * x) ^ (k / 2) := by
      conv => lhs; rw [show k = 2 * (k / 2) by omega, Int.pow_mul]
      rw [show x ^ 2 = x * x by rw [Int.pow_succ, Int.pow_succ, Int.pow_zero, Int.one_mul]]
    rw [e2] at h
    exact dvd_sub_trans (dvd_mul_sub (b := o) (by simp) e1) h

set_option maxHeartbeats 1600000 in
set_option maxRecDepth 1000000 in
theorem power_any (a m : Int) (n : Nat) (w : World) (m1 : 1 ≤ m) (m2 : m ≤ 2147483647) (hn : (n : Int) ≤ 9223372036854775807) :
    Calls Try.prog 49 #[.int .i64 a, .int .i64 n, .int .i64 m] w fun e w' => e = .returned (.int .i64 (a ^ n % m)) ∧ ∃ q, w' = w.drewN q := by
  have h1 := Int.emod_nonneg a (show m ≠ 0 by omega)
  have h2 := Int.emod_lt_of_pos a (show 0 < m by omega)
  have h3 := Int.emod_nonneg 1 (show m ≠ 0 by omega)
  have h4 := Int.emod_lt_of_pos 1 (show 0 < m by omega)
  have H0 : Hid (m ∣ (1 % m) * (a % m) ^ n - a ^ n) := by
    have := dvd_mul_sub (dvd_emod_sub 1 m) (dvd_pow_sub (dvd_emod_sub a m) n)
    rwa [Int.one_mul] at this
  go_enter Try.func49, Try.ntmps49
  go_wp2
  go_quiet ((go_at_call 50; first | exact quiet_left (refMod_any _ _ _ m1 (by omega)) | exact quiet_add_left (refMod_any _ _ _ m1 (by omega))))
  go_wp2
  go_loopw [1, 7, 8] (fun N O X wr => ∃ (k q : Nat) (o x : Int), N = .int .i64 k ∧ O = .int .i64 o ∧ X = .int .i64 x ∧ (k : Int) ≤ 9223372036854775807 ∧ (0 ≤ o ∧ o < m) ∧ (0 ≤ x ∧ x < m) ∧ Hid (m ∣ o * x ^ k - a ^ n) ∧ wr = w.drewN q) (fun N _ _ _ => (intOf N).toNat)
  case atStart => exact ⟨n, _, 1 % m, a % m, rfl, rfl, rfl, hn, ⟨h3, h4⟩, ⟨h1, h2⟩, H0.out, rfl⟩
  case round =>
    obtain ⟨k, q, o, x, rfl, rfl, rfl, hk, ⟨o1, o2⟩, ⟨x1, x2⟩, HD, rfl⟩ := hrel
    by_cases hz : k = 0
    · subst hz
      have HR : Hid (o = a ^ n % m) := emod_of_dvd o1 o2 (by have := HD.out; rwa [Int.pow_zero, Int.mul_one] at this)
      go_wp2
      go_ret
      exact ⟨ret_int' HR.out, q, rfl⟩
    · have hk0 : 0 < (k : Int) := by omega
      have b1 : 0 ≤ o * x := Int.mul_nonneg o1 x1
      have b2 : o * x ≤ 2147483647 * 2147483647 := Int.mul_le_mul (by omega) (by omega) x1 (by omega)
      have b3 : 0 ≤ x * x := Int.mul_nonneg x1 x1
      have b4 : x * x ≤ 2147483647 * 2147483647 := Int.mul_le_mul (by omega) (by omega) x1 (by omega)
      have c1 := Int.emod_nonneg (o * x) (show m ≠ 0 by omega)
      have c2 := Int.emod_lt_of_pos (o * x) (show 0 < m by omega)
      have c3 := Int.emod_nonneg (x * x) (show m ≠ 0 by omega)
      have c4 := Int.emod_lt_of_pos (x * x) (show 0 < m by omega)
      have HS := Lib.hid (pow_step HD.out)
      by_cases hodd : k % 2 = 1
      · have e1 : ((k : Int) % 2 == 1) = true := by rw [beq_iff_eq]; omega
        have HS2 := Lib.hid (HS.out.1 hodd)
        clear hodd
        go_wp2
        go_roundw
        case rel => exact ⟨k / 2, q, o * x % m, x * x % m, by go_num, rfl, rfl, by omega, ⟨c1, c2⟩, ⟨c3, c4⟩, HS2.out, rfl⟩
        case measure => simp [intOf]; omega
      · have e1 : ((k : Int) % 2 == 1) = false := by rw [beq_eq_false_iff_ne]; omega
        have HS2 := Lib.hid (HS.out.2 (by omega))
        clear hodd
        go_wp2
        go_roundw
        case rel => exact ⟨k / 2, q, o, x * x % m, by go_num, rfl, rfl, by omega, ⟨o1, o2⟩, ⟨c3, c4⟩, HS2.out, rfl⟩
        case measure => simp [intOf]; omega

/-- The reference's symbol (a/2). -/
def val2 (a : Int) : Int := if a % 2 = 0 then 0 else t8 a
set_option maxHeartbeats 800000 in
theorem refTwo_any (a : Int) (w : World) : Calls Try.prog 74 #[.int .i64 a] w fun e w' => e = .returned (.int .i64 (val2 a)) ∧ w = w' := by
  have HM := Lib.hid (fun W => refMod_any a 8 W (by omega) (by omega))
  have h0 := Int.emod_nonneg a (show (8 : Int) ≠ 0 by omega)
  have h1 := Int.emod_lt_of_pos a (show (0 : Int) < 8 by omega)
  have hc : a % 8 = 1 ∨ a % 8 = 7 ∨ a % 8 = 3 ∨ a % 8 = 5 ∨ (a % 8 ≠ 1 ∧ a % 8 ≠ 7 ∧ a % 8 ≠ 3 ∧ a % 8 ≠ 5) := by omega
  rcases hc with h | h | h | h | ⟨g1, g2, g3, g4⟩
  · have HR : Hid ((1 : Int) = val2 a) := by show _ = _; unfold val2 t8; rw [if_neg (by omega), if_pos (by omega)]
    go_enter Try.func74, Try.ntmps74
    go_wp2_with (go_at_call 50; ((with_reducible refine (HM.out _).mono ?_); rintro e w' ⟨rfl, rfl⟩))
    go_ret
    exact ⟨ret_int' HR.out, rfl⟩
  · have HR : Hid ((1 : Int) = val2 a) := by show _ = _; unfold val2 t8; rw [if_neg (by omega), if_pos (by omega)]
    go_enter Try.func74, Try.ntmps74
    go_wp2_with (go_at_call 50; ((with_reducible refine (HM.out _).mono ?_); rintro e w' ⟨rfl, rfl⟩))
    go_ret
    exact ⟨ret_int' HR.out, rfl⟩
  · have HR : Hid ((-1 : Int) = val2 a) := by show _ = _; unfold val2 t8; rw [if_neg (by omega), if_neg (by omega)]
    go_enter Try.func74, Try.ntmps74
    go_wp2_with (go_at_call 50; ((with_reducible refine (HM.out _).mono ?_); rintro e w' ⟨rfl, rfl⟩))
    go_ret
    exact ⟨ret_int' HR.out, rfl⟩
  · have HR : Hid ((-1 : Int) = val2 a) := by show _ = _; unfold val2 t8; rw [if_neg (by omega), if_neg (by omega)]
    go_enter Try.func74, Try.ntmps74
    go_wp2_with (go_at_call 50; ((with_reducible refine (HM.out _).mono ?_); rintro e w' ⟨rfl, rfl⟩))
    go_ret
    exact ⟨ret_int' HR.out, rfl⟩
  · have HR : Hid ((0 : Int) = val2 a) := by show _ = _; unfold val2; rw [if_pos (by omega)]
    have f1 : (a % 8 == 1) = false := by rw [beq_eq_false_iff_ne]; exact g1
    have f2 : (a % 8 == 7) = false := by rw [beq_eq_false_iff_ne]; exact g2
    have f3 : (a % 8 == 3) = false := by rw [beq_eq_false_iff_ne]; exact g3
    have f4 : (a % 8 == 5) = false := by rw [beq_eq_false_iff_ne]; exact g4
    clear g1 g2 g3 g4
    go_enter Try.func74, Try.ntmps74
    go_wp2_with (go_at_call 50; ((with_reducible refine (HM.out _).mono ?_); rintro e w' ⟨rfl, rfl⟩))
    go_ret
    exact ⟨ret_int' HR.out, rfl⟩
end Go.Proofs.Ytoeailhcobbhjaa
