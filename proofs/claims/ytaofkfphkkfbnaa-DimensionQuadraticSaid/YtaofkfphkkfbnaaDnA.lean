/- Leaves of the dimensions: weights, factors, powers, exponents, local factors. -/
import Derived.Test.YtaofkfphkkfbnaaDimM
import Derived.Test.YtaofkfphkkfbnaaFunL
namespace Go.Proofs.Ytaofkfphkkfbnaa
open Go.RowKit
set_option linter.unusedVariables false
set_option linter.unusedSimpArgs false

set_option maxHeartbeats 800000 in
theorem isw_any (k : Int) (w : World) : Calls Try.prog 37 #[.int .i64 k] w fun e w' => e = .returned (.bool (decide (2 ≤ k ∧ k ≤ 24))) ∧ w = w' := by
  by_cases h1 : 2 ≤ k
  · by_cases h2 : k ≤ 24
    · rw [decide_eq_true ⟨h1, h2⟩]
      go_enter Try.func37, Try.ntmps37
      go_wp2
      go_ret
      exact ⟨rfl, rfl⟩
    · rw [decide_eq_false (by omega)]
      go_enter Try.func37, Try.ntmps37
      go_wp2
      go_ret
      exact ⟨rfl, rfl⟩
  · rw [decide_eq_false (by omega)]
    go_enter Try.func37, Try.ntmps37
    go_wp2
    go_ret
    exact ⟨rfl, rfl⟩
set_option maxHeartbeats 800000 in
theorem f4_any (k : Nat) (w : World) (k2 : (k : Int) ≤ 24) : Calls Try.prog 72 #[.int .i64 (k : Int)] w fun e w' => e = .returned (.int .i64 (f4K k)) ∧ w = w' := by
  by_cases h0 : k % 4 = 0
  · rw [show f4K k = 3 by unfold f4K; rw [if_pos h0]]
    have e0 : ((k : Int) % 4 == 0) = true := by rw [beq_iff_eq]; omega
    clear h0
    go_enter Try.func72, Try.ntmps72
    go_wp2
    go_ret
    exact ⟨rfl, rfl⟩
  · by_cases h2 : k % 4 = 2
    · rw [show f4K k = -3 by unfold f4K; rw [if_neg h0, if_pos h2]]
      have e0 : ((k : Int) % 4 == 0) = false := by rw [beq_eq_false_iff_ne]; omega
      have e2 : ((k : Int) % 4 == 2) = true := by rw [beq_iff_eq]; omega
      clear h0 h2
      go_enter Try.func72, Try.ntmps72
      go_wp2
      go_ret
      exact ⟨rfl, rfl⟩
    · rw [show f4K k = 0 by unfold f4K; rw [if_neg h0, if_neg h2]]
      have e0 : ((k : Int) % 4 == 0) = false := by rw [beq_eq_false_iff_ne]; omega
      have e2 : ((k : Int) % 4 == 2) = false := by rw [beq_eq_false_iff_ne]; omega
      clear h0 h2
      go_enter Try.func72, Try.ntmps72
      go_wp2
      go_ret
      exact ⟨rfl, rfl⟩
set_option maxHeartbeats 800000 in
theorem f3_any (k : Nat) (w : World) (k2 : (k : Int) ≤ 24) : Calls Try.prog 75 #[.int .i64 (k : Int)] w fun e w' => e = .returned (.int .i64 (f3K k)) ∧ w = w' := by
  by_cases h0 : k % 3 = 0
  · rw [show f3K k = 4 by unfold f3K; rw [if_pos h0]]
    have e0 : ((k : Int) % 3 == 0) = true := by rw [beq_iff_eq]; omega
    clear h0
    go_enter Try.func75, Try.ntmps75
    go_wp2
    go_ret
    exact ⟨rfl, rfl⟩
  · by_cases h2 : k % 3 = 2
    · rw [show f3K k = -4 by unfold f3K; rw [if_neg h0, if_pos h2]]
      have e0 : ((k : Int) % 3 == 0) = false := by rw [beq_eq_false_iff_ne]; omega
      have e2 : ((k : Int) % 3 == 2) = true := by rw [beq_iff_eq]; omega
      clear h0 h2
      go_enter Try.func75, Try.ntmps75
      go_wp2
      go_ret
      exact ⟨rfl, rfl⟩
    · rw [show f3K k = 0 by unfold f3K; rw [if_neg h0, if_neg h2]]
      have e0 : ((k : Int) % 3 == 0) = false := by rw [beq_eq_false_iff_ne]; omega
      have e2 : ((k : Int) % 3 == 2) = false := by rw [beq_eq_false_iff_ne]; omega
      clear h0 h2
      go_enter Try.func75, Try.ntmps75
      go_wp2
      go_ret
      exact ⟨rfl, rfl⟩
set_option maxHeartbeats 1600000 in
/-- power: p to the power n, or 1 for a negative n. -/
theorem pow_any (p n : Nat) (w : World) (p2 : (p : Int) ≤ 120) (n2 : (n : Int) ≤ 7) (hb : Hid (∀ j, j ≤ n → p ^ j ≤ 1000000)) :
    Calls Try.prog 106 #[.int .i64 (p : Int), .int .i64 (n : Int)] w fun e w' => e = .returned (.int .i64 ((p ^ n : Nat) : Int)) ∧ w = w' := by
  have H0 : Hid (p ^ 0 = 1) := rfl
  have HS := Lib.hid (fun j => show p ^ (j + 1) = p ^ j * p from rfl)
  go_enter Try.func106, Try.ntmps106
  go_wp2
  go_loop [5, 7] (fun X J => ∃ j x : Nat, J = .int .i64 j ∧ X = .int .i64 x ∧ j ≤ n ∧ (x : Int) ≤ 1000000 ∧ Hid (p ^ j = x)) (fun _ J => n - (intOf J).toNat)
  case atStart => exact ⟨0, 1, rfl, rfl, Nat.zero_le _, by omega, H0.out⟩
  case round =>
    obtain ⟨j, x, rfl, rfl, hj, hx, HX⟩ := hrel
    by_cases hjn : j < n
    · have hji : (j : Int) < (n : Int) := by omega
      have hs := HS.out j
      have hbj := hb.out (j + 1) (by omega)
      rw [hs, HX.out] at hbj
      have HN : Hid (p ^ (j + 1) = x * p) := by show _ = _; rw [hs, HX.out]
      obtain ⟨z, hz⟩ : ∃ z, z = x * p := ⟨_, rfl⟩
      have hzi : (x : Int) * (p : Int) = (z : Int) := by rw [hz, Int.natCast_mul]
      rw [← hz] at hbj HN
      have hzb : (z : Int) ≤ 1000000 := by omega
      clear hs hz
      go_wp2
      go_round
      case rel => exact ⟨j + 1, z, by go_num, rfl, by omega, hzb, HN.out⟩
      case measure => simp [intOf]; omega
    · obtain rfl : j = n := by omega
      have hn : ¬ (j : Int) < (j : Int) := by omega
      have HE : Hid ((x : Int) = ((p ^ j : Nat) : Int)) := by show _ = _; rw [HX.out]
      clear HX
      go_wp2
      go_ret
      exact ⟨ret_int' HE.out, rfl⟩
set_option maxHeartbeats 1600000 in
theorem rpow_any (p n : Nat) (w : World) (p2 : (p : Int) ≤ 120) (n2 : (n : Int) ≤ 7) (hb : Hid (∀ j, j ≤ n → p ^ j ≤ 1000000)) :
    Calls Try.prog 80 #[.int .i64 (p : Int), .int .i64 (n : Int)] w fun e w' => e = .returned (.int .i64 ((p ^ n : Nat) : Int)) ∧ w = w' := by
  have H0 : Hid (p ^ 0 = 1) := rfl
  have HS := Lib.hid (fun j => show p ^ (j + 1) = p ^ j * p from rfl)
  go_enter Try.func80, Try.ntmps80
  go_wp2
  go_loop [1, 5] (fun J X => ∃ j x : Nat, J = .int .i64 ((n - j : Nat) : Int) ∧ X = .int .i64 x ∧ j ≤ n ∧ (x : Int) ≤ 1000000 ∧ Hid (p ^ j = x)) (fun J _ => (intOf J).toNat)
  case atStart => exact ⟨0, 1, rfl, rfl, Nat.zero_le _, by omega, H0.out⟩
  case round =>
    obtain ⟨j, x, rfl, rfl, hj, hx, HX⟩ := hrel
    obtain ⟨m, hm⟩ : ∃ m, m = n - j := ⟨_, rfl⟩
    rw [← hm]
    have Hm := Lib.hid hm
    by_cases hjn : j < n
    · have hji : 0 < (m : Int) := by omega
      have hmi : (m : Int) ≤ 7 := by omega
      have hs := HS.out j
      have hbj := hb.out (j + 1) (by omega)
      rw [hs, HX.out] at hbj
      have HN : Hid (p ^ (j + 1) = x * p) := by show _ = _; rw [hs, HX.out]
      obtain ⟨z, hz⟩ : ∃ z, z = x * p := ⟨_, rfl⟩
      have hzi : (x : Int) * (p : Int) = (z : Int) := by rw [hz, Int.natCast_mul]
      rw [← hz] at hbj HN
      have hzb : (z : Int) ≤ 1000000 := by omega
      clear hs hz hm
      go_wp2
      go_round
      case rel => exact ⟨j + 1, z, by have := Hm.out; exact congrArg (Value.int .i64) (by omega), rfl, by omega, hzb, HN.out⟩
      case measure => simp [intOf]; omega
    · obtain rfl : j = n := by omega
      obtain rfl : m = 0 := by omega
      have HE : Hid ((x : Int) = ((p ^ j : Nat) : Int)) := by show _ = _; rw [HX.out]
      clear HX hm
      go_wp2
      go_ret
      exact ⟨ret_int' HE.out, rfl⟩
set_option maxHeartbeats 1600000 in
theorem exp_any (n0 p : Nat) (w : World) (n1 : 1 ≤ n0) (n2 : (n0 : Int) ≤ 120) (p1 : 2 ≤ (p : Int)) (p2 : (p : Int) ≤ 120) :
    Calls Try.prog 98 #[.int .i64 (n0 : Int), .int .i64 (p : Int)] w fun e w' => e = .returned (.int .i64 ((strip n0 p n0).1 : Nat)) ∧ w = w' := by
  have HD := Lib.hid (fun (f r : Nat) (hr : 1 ≤ r) (hf : r ≤ f + 1) => div_small (d := p) (f := f) (by omega) hr hf)
  have hp0 : ((p : Int) == 0) = false := by rw [beq_eq_false_iff_ne]; omega
  go_enter Try.func98, Try.ntmps98
  go_wp2
  go_loop [0, 5] (fun R S => ∃ (j f r : Nat), R = .int .i64 r ∧ S = .int .i64 j ∧ Hid (r ≤ f) ∧ 1 ≤ r ∧ (r : Int) ≤ 120 ∧ j + r ≤ 121 ∧ Hid (strip n0 p n0 = (j + (strip f p r).1, (strip f p r).2))) (fun R _ => (intOf R).toNat)
  case atStart => exact ⟨0, n0, n0, rfl, rfl, Nat.le_refl _, n1, n2, by omega, by show _ = _; simp⟩
  case round =>
    obtain ⟨j, f, r, rfl, rfl, Hf, hr1, hr2, hjr, HST⟩ := hrel
    have hmod : (r : Int) % (p : Int) = ((r % p : Nat) : Int) := (Int.natCast_emod r p).symm
    have htm : Int.tmod (r : Int) (p : Int) = ((r % p : Nat) : Int) := (Int.ofNat_tmod _ _).symm
    have hdv : (r : Int) / (p : Int) = ((r / p : Nat) : Int) := (Int.natCast_ediv _ _).symm
    have htd : Int.tdiv (r : Int) (p : Int) = ((r / p : Nat) : Int) := (Int.ofNat_tdiv _ _).symm
    by_cases hev : r % p = 0
    · rw [hev] at hmod htm
      obtain ⟨f, rfl⟩ : ∃ f', f = f' + 1 := ⟨f - 1, by have := Hf.out; omega⟩
      have hq1 : 1 ≤ r / p := div_one_le (by omega) hr1 hev
      have hq2 : r / p < r := Nat.div_lt_self hr1 (by omega)
      have HQ := Lib.hid (HD.out f r hr1 Hf.out)
      have HST2 : Hid (strip n0 p n0 = (j + 1 + (strip f p (r / p)).1, (strip f p (r / p)).2)) := by
        show _ = _
        rw [HST.out, strip_hit hev]
        simp; omega
      clear HST hev
      generalize r / p = q at *
      have hq3 : (q : Int) ≤ 120 := by omega
      go_wp2
      go_round
      case rel => exact ⟨j + 1, f, q, rfl, by go_num, HQ.out, hq1, hq3, by omega, HST2.out⟩
      case measure => simp [intOf]; omega
    · have HE : Hid ((j : Int) = ((strip n0 p n0).1 : Nat)) := by
        show _ = _
        rw [HST.out]
        cases f with
        | zero => rfl
        | succ f => rw [strip_miss hev]; rfl
      have hne : (((r : Int) % (p : Int)) == 0) = false := by rw [hmod, beq_eq_false_iff_ne]; omega
      have hne2 : ((Int.tmod (r : Int) (p : Int)) == 0) = false := by rw [htm, beq_eq_false_iff_ne]; omega
      clear hmod htm hdv htd HST hev
      go_wp2
      go_ret
      exact ⟨ret_int' HE.out, rfl⟩
set_option maxHeartbeats 1600000 in
theorem rexp_any (n0 p : Nat) (w : World) (n1 : 1 ≤ n0) (n2 : (n0 : Int) ≤ 120) (p1 : 2 ≤ (p : Int)) (p2 : (p : Int) ≤ 120) :
    Calls Try.prog 79 #[.int .i64 (n0 : Int), .int .i64 (p : Int)] w fun e w' => e = .returned (.int .i64 ((strip n0 p n0).1 : Nat)) ∧ w = w' := by
  have HD := Lib.hid (fun (f r : Nat) (hr : 1 ≤ r) (hf : r ≤ f + 1) => div_small (d := p) (f := f) (by omega) hr hf)
  have hp0 : ((p : Int) == 0) = false := by rw [beq_eq_false_iff_ne]; omega
  go_enter Try.func79, Try.ntmps79
  go_wp2
  go_loop [0, 5] (fun R S => ∃ (j f r : Nat), R = .int .i64 r ∧ S = .int .i64 j ∧ Hid (r ≤ f) ∧ 1 ≤ r ∧ (r : Int) ≤ 120 ∧ j + r ≤ 121 ∧ Hid (strip n0 p n0 = (j + (strip f p r).1, (strip f p r).2))) (fun R _ => (intOf R).toNat)
  case atStart => exact ⟨0, n0, n0, rfl, rfl, Nat.le_refl _, n1, n2, by omega, by show _ = _; simp⟩
  case round =>
    obtain ⟨j, f, r, rfl, rfl, Hf, hr1, hr2, hjr, HST⟩ := hrel
    have hmod : (r : Int) % (p : Int) = ((r % p : Nat) : Int) := (Int.natCast_emod r p).symm
    have htm : Int.tmod (r : Int) (p : Int) = ((r % p : Nat) : Int) := (Int.ofNat_tmod _ _).symm
    have hdv : (r : Int) / (p : Int) = ((r / p : Nat) : Int) := (Int.natCast_ediv _ _).symm
    have htd : Int.tdiv (r : Int) (p : Int) = ((r / p : Nat) : Int) := (Int.ofNat_tdiv _ _).symm
    by_cases hev : r % p = 0
    · rw [hev] at hmod htm
      obtain ⟨f, rfl⟩ : ∃ f', f = f' + 1 := ⟨f - 1, by have := Hf.out; omega⟩
      have hq1 : 1 ≤ r / p := div_one_le (by omega) hr1 hev
      have hq2 : r / p < r := Nat.div_lt_self hr1 (by omega)
      have HQ := Lib.hid (HD.out f r hr1 Hf.out)
      have HST2 : Hid (strip n0 p n0 = (j + 1 + (strip f p (r / p)).1, (strip f p (r / p)).2)) := by
        show _ = _
        rw [HST.out, strip_hit hev]
        simp; omega
      clear HST hev
      generalize r / p = q at *
      have hq3 : (q : Int) ≤ 120 := by omega
      go_wp2
      go_round
      case rel => exact ⟨j + 1, f, q, rfl, by go_num, HQ.out, hq1, hq3, by omega, HST2.out⟩
      case measure => simp [intOf]; omega
    · have HE : Hid ((j : Int) = ((strip n0 p n0).1 : Nat)) := by
        show _ = _
        rw [HST.out]
        cases f with
        | zero => rfl
        | succ f => rw [strip_miss hev]; rfl
      have hne : (((r : Int) % (p : Int)) == 0) = false := by rw [hmod, beq_eq_false_iff_ne]; omega
      have hne2 : ((Int.tmod (r : Int) (p : Int)) == 0) = false := by rw [htm, beq_eq_false_iff_ne]; omega
      clear hmod htm hdv htd HST hev
      go_wp2
      go_ret
      exact ⟨ret_int' HE.out, rfl⟩
/-- Powers below a bound. -/
theorem pow_le_of {p n b : Nat} (hp : 2 ≤ p) (h : p ^ n ≤ b) : ∀ j, j ≤ n → p ^ j ≤ b := fun j hj => Nat.le_trans (Nat.pow_le_pow_right (by omega) hj) h
set_option maxHeartbeats 1600000 in
theorem loc_any (p r s : Nat) (w : World) (p1 : 2 ≤ p) (p2 : (p : Int) ≤ 120) (r1 : 1 ≤ r) (r2 : (r : Int) ≤ 7) (hs : s ≤ r) (hb : locF p r s ≤ 1000) :
    Calls Try.prog 97 #[.int .i64 (p : Int), .int .i64 (r : Int), .int .i64 (s : Int)] w fun e w' => e = .returned (.int .i64 (locF p r s : Nat)) ∧ w = w' := by
  by_cases h1 : r < 2 * s
  · have e : locF p r s = 2 * p ^ (r - s) := by unfold locF; rw [if_pos h1]
    rw [e] at hb ⊢
    have HP := Lib.hid (fun W => pow_any p (r - s) W p2 (by omega) (pow_le_of (by omega) (show p ^ (r - s) ≤ 1000000 by omega)))
    have hi : (r : Int) < 2 * (s : Int) := by omega
    have hsub : (r : Int) - (s : Int) = ((r - s : Nat) : Int) := by omega
    have hp : ((p ^ (r - s) : Nat) : Int) ≤ 1000 := by omega
    have HR : Hid (2 * ((p ^ (r - s) : Nat) : Int) = ((2 * p ^ (r - s) : Nat) : Int)) := by show _ = _; omega
    clear e h1
    generalize p ^ (r - s) = y at *
    generalize r - s = d at *
    go_enter Try.func97, Try.ntmps97
    go_wp2_with (first
      | (go_at_call 106; ((with_reducible refine (HP.out _).mono ?_); rintro e w' ⟨rfl, rfl⟩))
      | fail)
    go_ret
    exact ⟨ret_int' HR.out, rfl⟩
  · have hi : ¬ (r : Int) < 2 * (s : Int) := by omega
    by_cases h2 : r % 2 = 1
    · have e : locF p r s = 2 * p ^ ((r - 1) / 2) := by unfold locF; rw [if_neg h1, if_pos h2]
      rw [e] at hb ⊢
      have HP := Lib.hid (fun W => pow_any p ((r - 1) / 2) W p2 (by omega) (pow_le_of (by omega) (show p ^ ((r - 1) / 2) ≤ 1000000 by omega)))
      have e1 : ((r : Int) % 2 == 1) = true := by rw [beq_iff_eq]; omega
      have hsub : ((r : Int) - 1) / 2 = (((r - 1) / 2 : Nat) : Int) := by omega
      have hr0 : 0 ≤ (r : Int) - 1 := by omega
      have hp : ((p ^ ((r - 1) / 2) : Nat) : Int) ≤ 1000 := by omega
      have HR : Hid (2 * ((p ^ ((r - 1) / 2) : Nat) : Int) = ((2 * p ^ ((r - 1) / 2) : Nat) : Int)) := by show _ = _; omega
      clear e h1 h2
      generalize p ^ ((r - 1) / 2) = y at *
      generalize (r - 1) / 2 = d at *
      go_enter Try.func97, Try.ntmps97
      go_wp2_with (first
        | (go_at_call 106; ((with_reducible refine (HP.out _).mono ?_); rintro e w' ⟨rfl, rfl⟩))
        | fail)
      go_ret
      exact ⟨ret_int' HR.out, rfl⟩
    · have e : locF p r s = p ^ (r / 2) + p ^ (r / 2 - 1) := by unfold locF; rw [if_neg h1, if_neg h2]
      rw [e] at hb ⊢
      have HP := Lib.hid (fun W => pow_any p (r / 2) W p2 (by omega) (pow_le_of (by omega) (show p ^ (r / 2) ≤ 1000000 by omega)))
      have HP2 := Lib.hid (fun W => pow_any p (r / 2 - 1) W p2 (by omega) (pow_le_of (by omega) (show p ^ (r / 2 - 1) ≤ 1000000 by omega)))
      have e1 : ((r : Int) % 2 == 1) = false := by rw [beq_eq_false_iff_ne]; omega
      have hd : (r : Int) / 2 = ((r / 2 : Nat) : Int) := by omega
      have hsub : ((r / 2 : Nat) : Int) - 1 = ((r / 2 - 1 : Nat) : Int) := by omega
      have hd3 : ((r / 2 : Nat) : Int) ≤ 7 := by omega
      have HR : Hid (((p ^ (r / 2) : Nat) : Int) + ((p ^ (r / 2 - 1) : Nat) : Int) = ((p ^ (r / 2) + p ^ (r / 2 - 1) : Nat) : Int)) := by show _ = _; omega
      have ha : ((p ^ (r / 2) : Nat) : Int) ≤ 1000 := by omega
      have hb2 : ((p ^ (r / 2 - 1) : Nat) : Int) ≤ 1000 := by omega
      clear e h1 h2 hb
      generalize p ^ (r / 2) = y at *
      generalize p ^ (r / 2 - 1) = z at *
      generalize r / 2 - 1 = d' at *
      generalize r / 2 = d at *
      go_enter Try.func97, Try.ntmps97
      go_wp2_with (first
        | (go_at_call 106; first | ((with_reducible refine (HP.out _).mono ?_); rintro e w' ⟨rfl, rfl⟩) | ((with_reducible refine (HP2.out _).mono ?_); rintro e w' ⟨rfl, rfl⟩) | fail)
        | fail)
      go_ret
      exact ⟨ret_int' HR.out, rfl⟩
end Go.Proofs.Ytaofkfphkkfbnaa
