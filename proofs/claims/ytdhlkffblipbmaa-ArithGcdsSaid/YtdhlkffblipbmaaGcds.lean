/- Contracts of the two Xgcd and of the law ArithGcds' parts. -/
import Derived.Test.YtdhlkffblipbmaaPure
namespace Go.Proofs.Ytdhlkffblipbmaa
open Go.RowKit

set_option maxHeartbeats 400000 in
theorem refXgcd_zero (a : Int) (w : World) (a1 : -2147483647 ≤ a) (a2 : a ≤ 2147483647) :
    Calls Try.prog 17 #[.int .i64 a, .int .i64 0] w fun e w' => ∃ g u v : Int, e = .returned (.tuple #[.int .i64 g, .int .i64 u, .int .i64 v, .int .i64 0]) ∧ XgcdIs a 0 g u v ∧ ∃ n, w' = w.drewN n := by
  have HX : ∀ g u : Int, g = (a.natAbs : Int) → u = a.sign → XgcdIs a 0 g u 0 := fun g u hg hu => .inr ⟨rfl, hg, hu, rfl⟩
  have HG : gcdI a 0 = (a.natAbs : Int) := by unfold gcdI; rw [Int.gcd_zero_right, if_neg (by omega)]
  have HC := refGcd_any a 0 w (by omega) (by omega) (by omega) (by omega)
  rw [HG] at HC
  have HD := Lib.hid HC
  clear HC HG
  rcases Int.lt_trichotomy a 0 with h | h | h
  · have HY := Lib.hid (HX a.natAbs (-1) rfl (Int.sign_eq_neg_one_of_neg h).symm)
    clear HX
    go_enter Try.func17, Try.ntmps17
    go_wp2_with (first | (go_at_call 19; ((with_reducible refine HD.out.mono ?_); rintro e w' ⟨rfl, rfl⟩)))
    refine bodyPost_ret (results_tmp4 rfl _ _ _) rfl ⟨_, _, _, rfl, HY.out, 0, rfl⟩
  · subst h
    have HY := Lib.hid (HX 0 0 rfl rfl)
    clear HX
    go_enter Try.func17, Try.ntmps17
    go_wp2_with (first | (go_at_call 19; ((with_reducible refine HD.out.mono ?_); rintro e w' ⟨rfl, rfl⟩)))
    refine bodyPost_ret (results_tmp4 rfl _ _ _) rfl ⟨_, _, _, rfl, HY.out, 0, rfl⟩
  · have HY := Lib.hid (HX a.natAbs 1 rfl (Int.sign_eq_one_of_pos h).symm)
    clear HX
    go_enter Try.func17, Try.ntmps17
    go_wp2_with (first | (go_at_call 19; ((with_reducible refine HD.out.mono ?_); rintro e w' ⟨rfl, rfl⟩)))
    refine bodyPost_ret (results_tmp4 rfl _ _ _) rfl ⟨_, _, _, rfl, HY.out, 0, rfl⟩

theorem tdiv_g_pos {a b : Int} (hb : 0 < b) : b.tdiv (Int.gcd a b) = ((b.natAbs / Int.gcd a b : Nat) : Int) := by
  have : b = (b.natAbs : Int) := by omega
  conv => lhs; arg 1; rw [this]
  rw [Int.ofNat_tdiv]
theorem tdiv_g_neg {a b : Int} (hb : b < 0) : b.tdiv (Int.gcd a b) = -((b.natAbs / Int.gcd a b : Nat) : Int) := by
  have : b = -(b.natAbs : Int) := by omega
  conv => lhs; arg 1; rw [this]
  rw [Int.neg_tdiv, Int.ofNat_tdiv]
theorem div_pos' {a b : Int} (hb : b ≠ 0) : 1 ≤ b.natAbs / Int.gcd a b ∧ b.natAbs / Int.gcd a b ≤ b.natAbs := by
  have hg : 0 < Int.gcd a b := Int.gcd_pos_of_ne_zero_right a hb
  have : Int.gcd a b ≤ b.natAbs := Nat.le_of_dvd (by omega) (Int.ofNat_dvd_left.1 (Int.gcd_dvd_right a b))
  exact ⟨Nat.div_pos this hg, Nat.div_le_self _ _⟩
theorem isU_inv {a b u e0 : Int} (hb : b ≠ 0) (h : InvIs (a.tdiv (Int.gcd a b)) ((b.natAbs / Int.gcd a b : Nat) : Int) u e0) : IsU a b (Int.gcd a b) u := by
  rcases h with ⟨_, _, h⟩ | ⟨h, _⟩
  · exact isU_of_inv hb h
  · exact absurd (gcd_parts hb) h

set_option maxHeartbeats 400000 in
theorem refXgcd_any (a b : Int) (w : World) (a1 : -2147483647 ≤ a) (a2 : a ≤ 2147483647) (b1 : -2147483647 ≤ b) (b2 : b ≤ 2147483647) (hb : b ≠ 0) :
    Calls Try.prog 17 #[.int .i64 a, .int .i64 b] w fun e w' => ∃ g u v : Int, e = .returned (.tuple #[.int .i64 g, .int .i64 u, .int .i64 v, .int .i64 0]) ∧ XgcdIs a b g u v ∧ ∃ n, w' = w.drewN n := by
  have hb0 : (b == 0) = false := by simpa using hb
  have ha : a.natAbs ≤ 2147483647 := by omega
  have hbn : b.natAbs ≤ 2147483647 := by omega
  obtain ⟨q1, q2⟩ := div_pos' (a := a) hb
  have hg : 0 < Int.gcd a b := Int.gcd_pos_of_ne_zero_right a hb
  have hg2 : Int.gcd a b ≤ b.natAbs := Nat.le_of_dvd (by omega) (Int.ofNat_dvd_left.1 (Int.gcd_dvd_right a b))
  have HG : gcdI a b = (Int.gcd a b : Int) := by unfold gcdI; rw [if_neg (by omega)]
  have HC := refGcd_any a b w (by omega) (by omega) (by omega) (by omega)
  rw [HG] at HC
  have HD := Lib.hid HC
  clear HC HG
  have HU : Hid (∀ u e0, InvIs (a.tdiv (Int.gcd a b)) ((b.natAbs / Int.gcd a b : Nat) : Int) u e0 → IsU a b (Int.gcd a b) u) := fun u e0 h => isU_inv hb h
  have HO : Hid (b.natAbs / Int.gcd a b = 1 → IsU a b (Int.gcd a b) 0) := fun h => isU_one h
  obtain ⟨t1, t2⟩ := tdiv_bounds a (Int.gcd a b) (by omega) (by omega)
  have HI := refInverse_any (a.tdiv (Int.gcd a b)) ((b.natAbs / Int.gcd a b : Nat) : Int) w (by omega) (by omega)
  have e1 := tdiv_g_neg (a := a) (b := b)
  have e2 := tdiv_g_pos (a := a) (b := b)
  have q3 : 1 ≤ ((b.natAbs / Int.gcd a b : Nat) : Int) := by omega
  have q4 : ((b.natAbs / Int.gcd a b : Nat) : Int) ≤ 2147483647 := by omega
  have q5 : ¬ b.natAbs / Int.gcd a b = 1 → 1 < ((b.natAbs / Int.gcd a b : Nat) : Int) := by omega
  have q6 : b.natAbs / Int.gcd a b = 1 → ((b.natAbs / Int.gcd a b : Nat) : Int) = 1 := by omega
  rw [Int.natCast_ediv] at HI e1 e2 q3 q4 q5 q6
  have HJ := Lib.hid HI
  clear HI
  rcases Int.lt_or_gt_of_ne hb with hs | hs
  · have e := e1 hs
    clear e1 e2
    by_cases hq : b.natAbs / Int.gcd a b = 1
    · have HV := HO.out hq
      have HW := Lib.hid HV
      have e6 := q6 hq
      rw [e6] at e
      clear HV hq q5 q6 HO HU HJ q3 q4 q1 q2 e6
      obtain ⟨u1, u2, ⟨u3, u4⟩, u5⟩ := isU_bounds HW.out hbn ha
      obtain ⟨u6, u7⟩ := tdiv_bounds ((Int.gcd a b : Int) - 0 * a) b (by omega) (by omega)
      have h8 : ((Int.gcd a b : Int)).tdiv b = (Int.gcd a b : Int) / b := Int.tdiv_eq_ediv_of_nonneg (by omega)
      simp only [Int.zero_mul, Int.sub_zero] at u6 u7
      rw [h8] at u6 u7
      have H8 := Lib.hid h8
      clear h8
      go_enter Try.func17, Try.ntmps17
      go_wp2_with (go_at_call 19; ((with_reducible refine HD.out.mono ?_); rintro e w' ⟨rfl, rfl⟩))
      go_quiet (fail)
      go_wp2
      refine bodyPost_ret (results_tmp4 rfl _ _ _) rfl ⟨_, _, _, rfl, ?_, _, rfl⟩
      refine .inl ⟨hb, rfl, HW.out, ?_⟩
      rw [Int.zero_mul, Int.sub_zero]
      first | exact H8.out.symm | (rw [H8.out]; exact IntWalk.wrap64_in _ (by omega))
    · have q := q5 hq
      clear hq q5 q6 q1 q2 HO
      go_enter Try.func17, Try.ntmps17
      go_wp2_with (first | (go_at_call 19; ((with_reducible refine HD.out.mono ?_); rintro e w' ⟨rfl, rfl⟩)) | (go_at_call 45; ((with_reducible refine HJ.out.mono ?_); rintro e w' ⟨u, e0, rfl, HV0, rfl⟩; have HV := Lib.hid HV0; clear HV0)))
      have HW := Lib.hid (HU.out _ _ (by rw [Int.natCast_ediv]; exact HV.out))
      obtain ⟨u1, u2, ⟨u3, u4⟩, u5⟩ := isU_bounds HW.out hbn ha
      obtain ⟨u6, u7⟩ := tdiv_bounds ((Int.gcd a b : Int) - u * a) b (by omega) (by omega)
      go_quiet (fail)
      go_wp2
      refine bodyPost_ret (results_tmp4 rfl _ _ _) rfl ⟨_, _, _, rfl, .inl ⟨hb, rfl, HW.out, rfl⟩, _, rfl⟩
  · have e := e2 hs
    clear e1 e2
    by_cases hq : b.natAbs / Int.gcd a b = 1
    · have HV := HO.out hq
      have HW := Lib.hid HV
      have e6 := q6 hq
      rw [e6] at e
      clear HV hq q5 q6 HO HU HJ q3 q4 q1 q2 e6
      obtain ⟨u1, u2, ⟨u3, u4⟩, u5⟩ := isU_bounds HW.out hbn ha
      obtain ⟨u6, u7⟩ := tdiv_bounds ((Int.gcd a b : Int) - 0 * a) b (by omega) (by omega)
      have h8 : ((Int.gcd a b : Int)).tdiv b = (Int.gcd a b : Int) / b := Int.tdiv_eq_ediv_of_nonneg (by omega)
      simp only [Int.zero_mul, Int.sub_zero] at u6 u7
      rw [h8] at u6 u7
      have H8 := Lib.hid h8
      clear h8
      go_enter Try.func17, Try.ntmps17
      go_wp2_with (go_at_call 19; ((with_reducible refine HD.out.mono ?_); rintro e w' ⟨rfl, rfl⟩))
      go_quiet (fail)
      go_wp2
      refine bodyPost_ret (results_tmp4 rfl _ _ _) rfl ⟨_, _, _, rfl, ?_, _, rfl⟩
      refine .inl ⟨hb, rfl, HW.out, ?_⟩
      rw [Int.zero_mul, Int.sub_zero]
      first | exact H8.out.symm | (rw [H8.out]; exact IntWalk.wrap64_in _ (by omega))
    · have q := q5 hq
      clear hq q5 q6 q1 q2 HO
      go_enter Try.func17, Try.ntmps17
      go_wp2_with (first | (go_at_call 19; ((with_reducible refine HD.out.mono ?_); rintro e w' ⟨rfl, rfl⟩)) | (go_at_call 45; ((with_reducible refine HJ.out.mono ?_); rintro e w' ⟨u, e0, rfl, HV0, rfl⟩; have HV := Lib.hid HV0; clear HV0)))
      have HW := Lib.hid (HU.out _ _ (by rw [Int.natCast_ediv]; exact HV.out))
      obtain ⟨u1, u2, ⟨u3, u4⟩, u5⟩ := isU_bounds HW.out hbn ha
      obtain ⟨u6, u7⟩ := tdiv_bounds ((Int.gcd a b : Int) - u * a) b (by omega) (by omega)
      go_quiet (fail)
      go_wp2
      refine bodyPost_ret (results_tmp4 rfl _ _ _) rfl ⟨_, _, _, rfl, .inl ⟨hb, rfl, HW.out, rfl⟩, _, rfl⟩
set_option maxHeartbeats 400000 in
theorem refXgcd_no (a b : Int) (w : World)
    (h : a < -2147483647 ∨ 2147483647 < a ∨ b < -2147483647 ∨ 2147483647 < b) :
    Calls Try.prog 17 #[.int .i64 a, .int .i64 b] w fun e w' => e = .returned (.tuple #[.int .i64 0, .int .i64 0, .int .i64 0, .int .i64 2]) ∧ w = w' := by
  have h' : 2147483647 < a ∨ (a ≤ 2147483647 ∧ a < -2147483647) ∨ (a ≤ 2147483647 ∧ -2147483647 ≤ a ∧ 2147483647 < b) ∨ (a ≤ 2147483647 ∧ -2147483647 ≤ a ∧ b ≤ 2147483647 ∧ b < -2147483647) := by omega
  clear h
  rcases h' with h | ⟨h, k⟩ | ⟨h, k, l⟩ | ⟨h, k, l, m⟩
  all_goals
    go_enter Try.func17, Try.ntmps17
    go_wp2
    refine bodyPost_ret (results_tmp4 rfl _ _ _) rfl ⟨rfl, rfl⟩
end Go.Proofs.Ytdhlkffblipbmaa
