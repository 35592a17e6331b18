/- The contract of Kronecker. -/
import Derived.Test.YtlagljnhbhnelaaJacL
import Derived.Test.YtlagljnhbhnelaaArL
namespace Go.Proofs.Ytlagljnhbhnelaa
open Go.RowKit

def t8 (a : Int) : Int := if a % 8 = 1 ∨ a % 8 = 7 then 1 else -1
theorem t8_cases (a : Int) : t8 a = 1 ∨ t8 a = -1 := by unfold t8; split <;> simp
def sg (a n : Int) : Int := if n < 0 ∧ a < 0 then -1 else 1
def jacI (a : Int) (n : Nat) : Int := (if a < 0 ∧ n % 4 = 3 then -1 else 1) * jac a.natAbs n
/-- The Kronecker symbol (a/n). -/
def kron (a n : Int) : Int :=
  if n = 0 then (if a = 1 ∨ a = -1 then 1 else 0)
  else if a % 2 = 0 ∧ n % 2 = 0 then 0
  else sg a n * t8 a ^ (strip n.natAbs 2 n.natAbs).1 * jacI a (strip n.natAbs 2 n.natAbs).2
theorem kron_fin {a n : Int} {j r : Nat} {s : Int} (hn : n ≠ 0) (he : ¬ (a % 2 = 0 ∧ n % 2 = 0)) (hst : strip n.natAbs 2 n.natAbs = (j, r)) (hs : s = sg a n * t8 a ^ j) :
    ((a < 0 ∧ r % 4 = 3) → -s * jac (a.natAbs % r) r = kron a n) ∧ (¬ (a < 0 ∧ r % 4 = 3) → s * jac (a.natAbs % r) r = kron a n) := by
  unfold kron
  rw [if_neg hn, if_neg he, hst, ← hs, jac_mod]
  unfold jacI
  constructor
  · intro h
    rw [if_pos h]; grind
  · intro h
    rw [if_neg h]; grind
theorem u64_nat (a : Int) : ∃ m : Nat, IntKind.u64.wrap a = (m : Int) ∧ two8 m = t8 a := by
  refine ⟨(a % 18446744073709551616).toNat, ?_, ?_⟩
  · simp [IntKind.wrap, IntKind.bits, IntKind.signed]; omega
  · unfold two8 t8
    have : ((a % 18446744073709551616).toNat % 8 = 1 ∨ (a % 18446744073709551616).toNat % 8 = 7) ↔ (a % 8 = 1 ∨ a % 8 = 7) := by omega
    simp only [this]
theorem two_int (a : Int) (w : World) : Calls Try.prog 74 #[.int .u64 (IntKind.u64.wrap a)] w fun e w' => e = .returned (.int .i64 (t8 a)) ∧ w = w' := by
  obtain ⟨m, h1, h2⟩ := u64_nat a
  rw [h1, ← h2]
  exact two_any m w
theorem tmod_two (a : Int) : a.tmod 2 = 0 ↔ a % 2 = 0 := by
  constructor
  · intro h; exact Int.emod_eq_zero_of_dvd (Int.dvd_of_tmod_eq_zero h)
  · intro h; exact Int.tmod_eq_zero_of_dvd (Int.dvd_of_emod_eq_zero h)

set_option maxHeartbeats 800000 in
theorem kron_zero (a : Int) (w : World) : Calls Try.prog 64 #[.int .i64 a, .int .i64 0] w fun e w' => e = .returned (.int .i64 (kron a 0)) ∧ w = w' := by
  by_cases h1 : a = 1
  · subst h1
    go_enter Try.func64, Try.ntmps64
    go_wp2
    go_ret
    exact ⟨rfl, rfl⟩
  · by_cases h2 : a = -1
    · subst h2
      go_enter Try.func64, Try.ntmps64
      go_wp2
      go_ret
      exact ⟨rfl, rfl⟩
    · have e1 : (a == 1) = false := by simpa using h1
      have e2 : (a == -1) = false := by simpa using h2
      have HK : Hid ((0 : Int) = kron a 0) := by
        show _ = _
        unfold kron
        rw [if_pos rfl, if_neg (by omega)]
      clear h1 h2
      go_enter Try.func64, Try.ntmps64
      go_wp2
      go_ret
      exact ⟨ret_int' HK.out, rfl⟩
set_option maxHeartbeats 800000 in
theorem kron_even2 (a n : Int) (w : World) (hn0 : n ≠ 0) (h : a % 2 = 0 ∧ n % 2 = 0) : Calls Try.prog 64 #[.int .i64 a, .int .i64 n] w fun e w' => e = .returned (.int .i64 (kron a n)) ∧ w = w' := by
  have HK : Hid ((0 : Int) = kron a n) := by
    show _ = _
    unfold kron
    rw [if_neg hn0, if_pos h]
  have e0 : (n == 0) = false := by simpa using hn0
  have e1 : (a.tmod 2 == 0) = true := by rw [beq_iff_eq]; exact (tmod_two a).2 h.1
  have e2 : (n.tmod 2 == 0) = true := by rw [beq_iff_eq]; exact (tmod_two n).2 h.2
  clear h hn0
  go_enter Try.func64, Try.ntmps64
  go_wp2
  go_ret
  exact ⟨ret_int' HK.out, rfl⟩

set_option maxHeartbeats 1600000 in
set_option maxRecDepth 1000000 in
theorem kron_main (a n : Int) (w : World) (a1 : -1000000 ≤ a) (a2 : a ≤ 1000000) (n1 : -1000000 ≤ n) (n2 : n ≤ 1000000) (hn0 : n ≠ 0) (h : ¬ (a % 2 = 0 ∧ n % 2 = 0))
    (hev : ((a.tmod 2 == 0) = false ∧ (a % 2 == 0) = false) ∨ (((a.tmod 2 == 0) = true ∧ (a % 2 == 0) = true) ∧ (n.tmod 2 == 0) = false ∧ (n % 2 == 0) = false)) :
    Calls Try.prog 64 #[.int .i64 a, .int .i64 n] w fun e w' => e = .returned (.int .i64 (kron a n)) ∧ w = w' := by
  have HBE := Lib.hid h
  have e0 : (n == 0) = false := by simpa using hn0
  have HABA := Lib.hid (fun W => absolute_any a W (by unfold Mid; omega))
  have HABN := Lib.hid (fun W => absolute_any n W (by unfold Mid; omega))
  have HMN := Lib.hid (show Mag n.natAbs by unfold Mag; omega)
  have HTW := Lib.hid (fun W => two_int a W)
  have hn1 : 1 ≤ n.natAbs := by omega
  clear h a1 a2 n1 n2
  rcases hev with ⟨f1, g1⟩ | ⟨⟨f1, g1⟩, f2, g2⟩ <;> rcases Int.lt_or_le n 0 with hnn | hnn <;> rcases Int.lt_or_le a 0 with hneg | hneg
  all_goals go_enter Try.func64, Try.ntmps64
  · have HSV : Hid (-1 = sg a n) := by show -1 = sg a n; unfold sg; rw [if_pos ⟨hnn, hneg⟩]
    go_wp2_with (go_at_call 71; ((with_reducible refine (HABN.out _).mono ?_); rintro e w' ⟨rfl, rfl⟩))
    go_loop [5, 6] (fun S R => ∃ (j f r : Nat) (s : Int), R = .int .u64 r ∧ S = .int .i64 s ∧ Hid (r ≤ f) ∧ 1 ≤ r ∧ Mag r ∧ (-1 ≤ s ∧ s ≤ 1) ∧ Hid (strip n.natAbs 2 n.natAbs = (j + (strip f 2 r).1, (strip f 2 r).2)) ∧ Hid (s = sg a n * t8 a ^ j) ∧ Hid (s = 1 ∨ s = -1)) (fun _ R => (intOf R).toNat)
    case atStart => exact ⟨0, n.natAbs, n.natAbs, -1, rfl, rfl, Nat.le_refl _, hn1, HMN.out, by omega, by show _ = _; simp, by show _ = _; rw [Int.pow_zero, Int.mul_one]; exact HSV.out, by show _ ∨ _; omega⟩
    case round =>
      obtain ⟨j, f, r, s, rfl, rfl, Hf, hr1, hmr, ⟨s1, s2⟩, HST, HS, HS1⟩ := hrel
      by_cases hev : r % 2 = 0
      · have e1 : ((r : Int) % 2 == 0) = true := by rw [beq_iff_eq]; omega
        obtain ⟨f, rfl⟩ : ∃ f', f = f' + 1 := ⟨f - 1, by have := Hf.out; omega⟩
        have hq1 : 1 ≤ r / 2 := by omega
        have hq2 : r / 2 < r := by omega
        have HQ2 := Lib.hid (div_small (f := f) (show 2 ≤ 2 by omega) hr1 Hf.out)
        have HWR := Lib.hid (u64_half hmr)
        have hmr2 : Mag (r / 2) := by unfold Mag at *; omega
        have HST2 : Hid (strip n.natAbs 2 n.natAbs = (j + 1 + (strip f 2 (r / 2)).1, (strip f 2 (r / 2)).2)) := by
          show _ = _
          rw [HST.out, strip_hit hev]
          simp; omega
        have HS2 : Hid (s * t8 a = sg a n * t8 a ^ (j + 1)) := by
          show _ = _
          rw [HS.out, Int.pow_succ, Int.mul_assoc]
        have HS3 := Lib.hid (one_mul_cases HS1.out (t8_cases a))
        obtain ⟨b1, b2⟩ := one_bounds HS3.out
        clear hev
        go_wp2_with (go_at_call 74; ((with_reducible refine (HTW.out _).mono ?_); rintro e w' ⟨rfl, rfl⟩))
        go_round
        case rel => exact ⟨j + 1, f, r / 2, s * t8 a, congrArg _ HWR.out, rfl, HQ2.out, hq1, hmr2, ⟨b1, b2⟩, HST2.out, HS2.out, HS3.out⟩
        case measure => simp only [intOf]; rw [HWR.out]; simp; omega
      · have e1 : ((r : Int) % 2 == 0) = false := by rw [beq_eq_false_iff_ne]; omega
        have hodd : r % 2 = 1 := by omega
        have HST2 : Hid (strip n.natAbs 2 n.natAbs = (j, r)) := by
          show _ = _
          rw [HST.out]
          cases f with
          | zero => rfl
          | succ f => rw [strip_miss hev]; rfl
        have hr0 : 1 ≤ (r : Int) := by omega
        have hmod : Mag (a.natAbs % r) := by have := Nat.mod_lt a.natAbs (show 0 < r by omega); unfold Mag at *; omega
        have HJA := Lib.hid (fun W => jacobi_any (a.natAbs % r) r W hmod hmr hodd)
        have hj := jac_cases (a.natAbs % r) r
        have HFIN := Lib.hid (kron_fin (a := a) (n := n) hn0 HBE.out HST2.out HS.out)
        have HKA : Hid (((a.natAbs : Int) % (r : Int)) = ((a.natAbs % r : Nat) : Int)) := by show _ = _; rw [natmod_cast]
        have hj1 : -1 ≤ jac (a.natAbs % r) r ∧ jac (a.natAbs % r) r ≤ 1 := by omega
        obtain ⟨hj2, hj3⟩ := hj1
        have hp1 : -1 ≤ s * jac (a.natAbs % r) r ∧ s * jac (a.natAbs % r) r ≤ 1 := by rcases HS1.out with h | h <;> rw [h] <;> omega
        have hp2 : -1 ≤ -s * jac (a.natAbs % r) r ∧ -s * jac (a.natAbs % r) r ≤ 1 := by rcases HS1.out with h | h <;> rw [h] <;> omega
        obtain ⟨hp3, hp4⟩ := hp1
        obtain ⟨hp5, hp6⟩ := hp2
        clear hev hodd hj HST
        by_cases h4 : r % 4 = 3
        · have e2 : ((r : Int) % 4 == 3) = true := by rw [beq_iff_eq]; omega
          have HF := Lib.hid (HFIN.out.1 ⟨hneg, h4⟩)
          clear h4
          go_wp2_with (first
            | (go_at_call 71; ((with_reducible refine (HABA.out _).mono ?_); rintro e w' ⟨rfl, rfl⟩))
            | (go_at_call 75; (refine (Eq.mpr (by rw [HKA.out]) (HJA.out _) : Calls _ _ _ _ _).mono ?_; rintro e w' ⟨rfl, rfl⟩)))
          go_ret
          exact ⟨ret_int' HF.out, rfl⟩
        · have e2 : ((r : Int) % 4 == 3) = false := by rw [beq_eq_false_iff_ne]; omega
          have HF := Lib.hid (HFIN.out.2 (by omega))
          clear h4
          go_wp2_with (first
            | (go_at_call 71; ((with_reducible refine (HABA.out _).mono ?_); rintro e w' ⟨rfl, rfl⟩))
            | (go_at_call 75; (refine (Eq.mpr (by rw [HKA.out]) (HJA.out _) : Calls _ _ _ _ _).mono ?_; rintro e w' ⟨rfl, rfl⟩)))
          go_ret
          exact ⟨ret_int' HF.out, rfl⟩
  · have HSV : Hid (1 = sg a n) := by show 1 = sg a n; unfold sg; rw [if_neg (by omega)]
    go_wp2_with (go_at_call 71; ((with_reducible refine (HABN.out _).mono ?_); rintro e w' ⟨rfl, rfl⟩))
    go_loop [5, 6] (fun S R => ∃ (j f r : Nat) (s : Int), R = .int .u64 r ∧ S = .int .i64 s ∧ Hid (r ≤ f) ∧ 1 ≤ r ∧ Mag r ∧ (-1 ≤ s ∧ s ≤ 1) ∧ Hid (strip n.natAbs 2 n.natAbs = (j + (strip f 2 r).1, (strip f 2 r).2)) ∧ Hid (s = sg a n * t8 a ^ j) ∧ Hid (s = 1 ∨ s = -1)) (fun _ R => (intOf R).toNat)
    case atStart => exact ⟨0, n.natAbs, n.natAbs, 1, rfl, rfl, Nat.le_refl _, hn1, HMN.out, by omega, by show _ = _; simp, by show _ = _; rw [Int.pow_zero, Int.mul_one]; exact HSV.out, by show _ ∨ _; omega⟩
    case round =>
      obtain ⟨j, f, r, s, rfl, rfl, Hf, hr1, hmr, ⟨s1, s2⟩, HST, HS, HS1⟩ := hrel
      by_cases hev : r % 2 = 0
      · have e1 : ((r : Int) % 2 == 0) = true := by rw [beq_iff_eq]; omega
        obtain ⟨f, rfl⟩ : ∃ f', f = f' + 1 := ⟨f - 1, by have := Hf.out; omega⟩
        have hq1 : 1 ≤ r / 2 := by omega
        have hq2 : r / 2 < r := by omega
        have HQ2 := Lib.hid (div_small (f := f) (show 2 ≤ 2 by omega) hr1 Hf.out)
        have HWR := Lib.hid (u64_half hmr)
        have hmr2 : Mag (r / 2) := by unfold Mag at *; omega
        have HST2 : Hid (strip n.natAbs 2 n.natAbs = (j + 1 + (strip f 2 (r / 2)).1, (strip f 2 (r / 2)).2)) := by
          show _ = _
          rw [HST.out, strip_hit hev]
          simp; omega
        have HS2 : Hid (s * t8 a = sg a n * t8 a ^ (j + 1)) := by
          show _ = _
          rw [HS.out, Int.pow_succ, Int.mul_assoc]
        have HS3 := Lib.hid (one_mul_cases HS1.out (t8_cases a))
        obtain ⟨b1, b2⟩ := one_bounds HS3.out
        clear hev
        go_wp2_with (go_at_call 74; ((with_reducible refine (HTW.out _).mono ?_); rintro e w' ⟨rfl, rfl⟩))
        go_round
        case rel => exact ⟨j + 1, f, r / 2, s * t8 a, congrArg _ HWR.out, rfl, HQ2.out, hq1, hmr2, ⟨b1, b2⟩, HST2.out, HS2.out, HS3.out⟩
        case measure => simp only [intOf]; rw [HWR.out]; simp; omega
      · have e1 : ((r : Int) % 2 == 0) = false := by rw [beq_eq_false_iff_ne]; omega
        have hodd : r % 2 = 1 := by omega
        have HST2 : Hid (strip n.natAbs 2 n.natAbs = (j, r)) := by
          show _ = _
          rw [HST.out]
          cases f with
          | zero => rfl
          | succ f => rw [strip_miss hev]; rfl
        have hr0 : 1 ≤ (r : Int) := by omega
        have hmod : Mag (a.natAbs % r) := by have := Nat.mod_lt a.natAbs (show 0 < r by omega); unfold Mag at *; omega
        have HJA := Lib.hid (fun W => jacobi_any (a.natAbs % r) r W hmod hmr hodd)
        have hj := jac_cases (a.natAbs % r) r
        have HFIN := Lib.hid (kron_fin (a := a) (n := n) hn0 HBE.out HST2.out HS.out)
        have HKA : Hid (((a.natAbs : Int) % (r : Int)) = ((a.natAbs % r : Nat) : Int)) := by show _ = _; rw [natmod_cast]
        have hj1 : -1 ≤ jac (a.natAbs % r) r ∧ jac (a.natAbs % r) r ≤ 1 := by omega
        obtain ⟨hj2, hj3⟩ := hj1
        have hp1 : -1 ≤ s * jac (a.natAbs % r) r ∧ s * jac (a.natAbs % r) r ≤ 1 := by rcases HS1.out with h | h <;> rw [h] <;> omega
        have hp2 : -1 ≤ -s * jac (a.natAbs % r) r ∧ -s * jac (a.natAbs % r) r ≤ 1 := by rcases HS1.out with h | h <;> rw [h] <;> omega
        obtain ⟨hp3, hp4⟩ := hp1
        obtain ⟨hp5, hp6⟩ := hp2
        clear hev hodd hj HST
        go_wp2_with (first
          | (go_at_call 71; ((with_reducible refine (HABA.out _).mono ?_); rintro e w' ⟨rfl, rfl⟩))
          | (go_at_call 75; (refine (Eq.mpr (by rw [HKA.out]) (HJA.out _) : Calls _ _ _ _ _).mono ?_; rintro e w' ⟨rfl, rfl⟩)))
        go_ret
        exact ⟨ret_int' (HFIN.out.2 (by omega)), rfl⟩
  · have HSV : Hid (1 = sg a n) := by show 1 = sg a n; unfold sg; rw [if_neg (by omega)]
    go_wp2_with (go_at_call 71; ((with_reducible refine (HABN.out _).mono ?_); rintro e w' ⟨rfl, rfl⟩))
    go_loop [5, 6] (fun S R => ∃ (j f r : Nat) (s : Int), R = .int .u64 r ∧ S = .int .i64 s ∧ Hid (r ≤ f) ∧ 1 ≤ r ∧ Mag r ∧ (-1 ≤ s ∧ s ≤ 1) ∧ Hid (strip n.natAbs 2 n.natAbs = (j + (strip f 2 r).1, (strip f 2 r).2)) ∧ Hid (s = sg a n * t8 a ^ j) ∧ Hid (s = 1 ∨ s = -1)) (fun _ R => (intOf R).toNat)
    case atStart => exact ⟨0, n.natAbs, n.natAbs, 1, rfl, rfl, Nat.le_refl _, hn1, HMN.out, by omega, by show _ = _; simp, by show _ = _; rw [Int.pow_zero, Int.mul_one]; exact HSV.out, by show _ ∨ _; omega⟩
    case round =>
      obtain ⟨j, f, r, s, rfl, rfl, Hf, hr1, hmr, ⟨s1, s2⟩, HST, HS, HS1⟩ := hrel
      by_cases hev : r % 2 = 0
      · have e1 : ((r : Int) % 2 == 0) = true := by rw [beq_iff_eq]; omega
        obtain ⟨f, rfl⟩ : ∃ f', f = f' + 1 := ⟨f - 1, by have := Hf.out; omega⟩
        have hq1 : 1 ≤ r / 2 := by omega
        have hq2 : r / 2 < r := by omega
        have HQ2 := Lib.hid (div_small (f := f) (show 2 ≤ 2 by omega) hr1 Hf.out)
        have HWR := Lib.hid (u64_half hmr)
        have hmr2 : Mag (r / 2) := by unfold Mag at *; omega
        have HST2 : Hid (strip n.natAbs 2 n.natAbs = (j + 1 + (strip f 2 (r / 2)).1, (strip f 2 (r / 2)).2)) := by
          show _ = _
          rw [HST.out, strip_hit hev]
          simp; omega
        have HS2 : Hid (s * t8 a = sg a n * t8 a ^ (j + 1)) := by
          show _ = _
          rw [HS.out, Int.pow_succ, Int.mul_assoc]
        have HS3 := Lib.hid (one_mul_cases HS1.out (t8_cases a))
        obtain ⟨b1, b2⟩ := one_bounds HS3.out
        clear hev
        go_wp2_with (go_at_call 74; ((with_reducible refine (HTW.out _).mono ?_); rintro e w' ⟨rfl, rfl⟩))
        go_round
        case rel => exact ⟨j + 1, f, r / 2, s * t8 a, congrArg _ HWR.out, rfl, HQ2.out, hq1, hmr2, ⟨b1, b2⟩, HST2.out, HS2.out, HS3.out⟩
        case measure => simp only [intOf]; rw [HWR.out]; simp; omega
      · have e1 : ((r : Int) % 2 == 0) = false := by rw [beq_eq_false_iff_ne]; omega
        have hodd : r % 2 = 1 := by omega
        have HST2 : Hid (strip n.natAbs 2 n.natAbs = (j, r)) := by
          show _ = _
          rw [HST.out]
          cases f with
          | zero => rfl
          | succ f => rw [strip_miss hev]; rfl
        have hr0 : 1 ≤ (r : Int) := by omega
        have hmod : Mag (a.natAbs % r) := by have := Nat.mod_lt a.natAbs (show 0 < r by omega); unfold Mag at *; omega
        have HJA := Lib.hid (fun W => jacobi_any (a.natAbs % r) r W hmod hmr hodd)
        have hj := jac_cases (a.natAbs % r) r
        have HFIN := Lib.hid (kron_fin (a := a) (n := n) hn0 HBE.out HST2.out HS.out)
        have HKA : Hid (((a.natAbs : Int) % (r : Int)) = ((a.natAbs % r : Nat) : Int)) := by show _ = _; rw [natmod_cast]
        have hj1 : -1 ≤ jac (a.natAbs % r) r ∧ jac (a.natAbs % r) r ≤ 1 := by omega
        obtain ⟨hj2, hj3⟩ := hj1
        have hp1 : -1 ≤ s * jac (a.natAbs % r) r ∧ s * jac (a.natAbs % r) r ≤ 1 := by rcases HS1.out with h | h <;> rw [h] <;> omega
        have hp2 : -1 ≤ -s * jac (a.natAbs % r) r ∧ -s * jac (a.natAbs % r) r ≤ 1 := by rcases HS1.out with h | h <;> rw [h] <;> omega
        obtain ⟨hp3, hp4⟩ := hp1
        obtain ⟨hp5, hp6⟩ := hp2
        clear hev hodd hj HST
        by_cases h4 : r % 4 = 3
        · have e2 : ((r : Int) % 4 == 3) = true := by rw [beq_iff_eq]; omega
          have HF := Lib.hid (HFIN.out.1 ⟨hneg, h4⟩)
          clear h4
          go_wp2_with (first
            | (go_at_call 71; ((with_reducible refine (HABA.out _).mono ?_); rintro e w' ⟨rfl, rfl⟩))
            | (go_at_call 75; (refine (Eq.mpr (by rw [HKA.out]) (HJA.out _) : Calls _ _ _ _ _).mono ?_; rintro e w' ⟨rfl, rfl⟩)))
          go_ret
          exact ⟨ret_int' HF.out, rfl⟩
        · have e2 : ((r : Int) % 4 == 3) = false := by rw [beq_eq_false_iff_ne]; omega
          have HF := Lib.hid (HFIN.out.2 (by omega))
          clear h4
          go_wp2_with (first
            | (go_at_call 71; ((with_reducible refine (HABA.out _).mono ?_); rintro e w' ⟨rfl, rfl⟩))
            | (go_at_call 75; (refine (Eq.mpr (by rw [HKA.out]) (HJA.out _) : Calls _ _ _ _ _).mono ?_; rintro e w' ⟨rfl, rfl⟩)))
          go_ret
          exact ⟨ret_int' HF.out, rfl⟩
  · have HSV : Hid (1 = sg a n) := by show 1 = sg a n; unfold sg; rw [if_neg (by omega)]
    go_wp2_with (go_at_call 71; ((with_reducible refine (HABN.out _).mono ?_); rintro e w' ⟨rfl, rfl⟩))
    go_loop [5, 6] (fun S R => ∃ (j f r : Nat) (s : Int), R = .int .u64 r ∧ S = .int .i64 s ∧ Hid (r ≤ f) ∧ 1 ≤ r ∧ Mag r ∧ (-1 ≤ s ∧ s ≤ 1) ∧ Hid (strip n.natAbs 2 n.natAbs = (j + (strip f 2 r).1, (strip f 2 r).2)) ∧ Hid (s = sg a n * t8 a ^ j) ∧ Hid (s = 1 ∨ s = -1)) (fun _ R => (intOf R).toNat)
    case atStart => exact ⟨0, n.natAbs, n.natAbs, 1, rfl, rfl, Nat.le_refl _, hn1, HMN.out, by omega, by show _ = _; simp, by show _ = _; rw [Int.pow_zero, Int.mul_one]; exact HSV.out, by show _ ∨ _; omega⟩
    case round =>
      obtain ⟨j, f, r, s, rfl, rfl, Hf, hr1, hmr, ⟨s1, s2⟩, HST, HS, HS1⟩ := hrel
      by_cases hev : r % 2 = 0
      · have e1 : ((r : Int) % 2 == 0) = true := by rw [beq_iff_eq]; omega
        obtain ⟨f, rfl⟩ : ∃ f', f = f' + 1 := ⟨f - 1, by have := Hf.out; omega⟩
        have hq1 : 1 ≤ r / 2 := by omega
        have hq2 : r / 2 < r := by omega
        have HQ2 := Lib.hid (div_small (f := f) (show 2 ≤ 2 by omega) hr1 Hf.out)
        have HWR := Lib.hid (u64_half hmr)
        have hmr2 : Mag (r / 2) := by unfold Mag at *; omega
        have HST2 : Hid (strip n.natAbs 2 n.natAbs = (j + 1 + (strip f 2 (r / 2)).1, (strip f 2 (r / 2)).2)) := by
          show _ = _
          rw [HST.out, strip_hit hev]
          simp; omega
        have HS2 : Hid (s * t8 a = sg a n * t8 a ^ (j + 1)) := by
          show _ = _
          rw [HS.out, Int.pow_succ, Int.mul_assoc]
        have HS3 := Lib.hid (one_mul_cases HS1.out (t8_cases a))
        obtain ⟨b1, b2⟩ := one_bounds HS3.out
        clear hev
        go_wp2_with (go_at_call 74; ((with_reducible refine (HTW.out _).mono ?_); rintro e w' ⟨rfl, rfl⟩))
        go_round
        case rel => exact ⟨j + 1, f, r / 2, s * t8 a, congrArg _ HWR.out, rfl, HQ2.out, hq1, hmr2, ⟨b1, b2⟩, HST2.out, HS2.out, HS3.out⟩
        case measure => simp only [intOf]; rw [HWR.out]; simp; omega
      · have e1 : ((r : Int) % 2 == 0) = false := by rw [beq_eq_false_iff_ne]; omega
        have hodd : r % 2 = 1 := by omega
        have HST2 : Hid (strip n.natAbs 2 n.natAbs = (j, r)) := by
          show _ = _
          rw [HST.out]
          cases f with
          | zero => rfl
          | succ f => rw [strip_miss hev]; rfl
        have hr0 : 1 ≤ (r : Int) := by omega
        have hmod : Mag (a.natAbs % r) := by have := Nat.mod_lt a.natAbs (show 0 < r by omega); unfold Mag at *; omega
        have HJA := Lib.hid (fun W => jacobi_any (a.natAbs % r) r W hmod hmr hodd)
        have hj := jac_cases (a.natAbs % r) r
        have HFIN := Lib.hid (kron_fin (a := a) (n := n) hn0 HBE.out HST2.out HS.out)
        have HKA : Hid (((a.natAbs : Int) % (r : Int)) = ((a.natAbs % r : Nat) : Int)) := by show _ = _; rw [natmod_cast]
        have hj1 : -1 ≤ jac (a.natAbs % r) r ∧ jac (a.natAbs % r) r ≤ 1 := by omega
        obtain ⟨hj2, hj3⟩ := hj1
        have hp1 : -1 ≤ s * jac (a.natAbs % r) r ∧ s * jac (a.natAbs % r) r ≤ 1 := by rcases HS1.out with h | h <;> rw [h] <;> omega
        have hp2 : -1 ≤ -s * jac (a.natAbs % r) r ∧ -s * jac (a.natAbs % r) r ≤ 1 := by rcases HS1.out with h | h <;> rw [h] <;> omega
        obtain ⟨hp3, hp4⟩ := hp1
        obtain ⟨hp5, hp6⟩ := hp2
        clear hev hodd hj HST
        go_wp2_with (first
          | (go_at_call 71; ((with_reducible refine (HABA.out _).mono ?_); rintro e w' ⟨rfl, rfl⟩))
          | (go_at_call 75; (refine (Eq.mpr (by rw [HKA.out]) (HJA.out _) : Calls _ _ _ _ _).mono ?_; rintro e w' ⟨rfl, rfl⟩)))
        go_ret
        exact ⟨ret_int' (HFIN.out.2 (by omega)), rfl⟩
  · have HSV : Hid (-1 = sg a n) := by show -1 = sg a n; unfold sg; rw [if_pos ⟨hnn, hneg⟩]
    go_wp2_with (go_at_call 71; ((with_reducible refine (HABN.out _).mono ?_); rintro e w' ⟨rfl, rfl⟩))
    go_loop [5, 6] (fun S R => ∃ (j f r : Nat) (s : Int), R = .int .u64 r ∧ S = .int .i64 s ∧ Hid (r ≤ f) ∧ 1 ≤ r ∧ Mag r ∧ (-1 ≤ s ∧ s ≤ 1) ∧ Hid (strip n.natAbs 2 n.natAbs = (j + (strip f 2 r).1, (strip f 2 r).2)) ∧ Hid (s = sg a n * t8 a ^ j) ∧ Hid (s = 1 ∨ s = -1)) (fun _ R => (intOf R).toNat)
    case atStart => exact ⟨0, n.natAbs, n.natAbs, -1, rfl, rfl, Nat.le_refl _, hn1, HMN.out, by omega, by show _ = _; simp, by show _ = _; rw [Int.pow_zero, Int.mul_one]; exact HSV.out, by show _ ∨ _; omega⟩
    case round =>
      obtain ⟨j, f, r, s, rfl, rfl, Hf, hr1, hmr, ⟨s1, s2⟩, HST, HS, HS1⟩ := hrel
      by_cases hev : r % 2 = 0
      · have e1 : ((r : Int) % 2 == 0) = true := by rw [beq_iff_eq]; omega
        obtain ⟨f, rfl⟩ : ∃ f', f = f' + 1 := ⟨f - 1, by have := Hf.out; omega⟩
        have hq1 : 1 ≤ r / 2 := by omega
        have hq2 : r / 2 < r := by omega
        have HQ2 := Lib.hid (div_small (f := f) (show 2 ≤ 2 by omega) hr1 Hf.out)
        have HWR := Lib.hid (u64_half hmr)
        have hmr2 : Mag (r / 2) := by unfold Mag at *; omega
        have HST2 : Hid (strip n.natAbs 2 n.natAbs = (j + 1 + (strip f 2 (r / 2)).1, (strip f 2 (r / 2)).2)) := by
          show _ = _
          rw [HST.out, strip_hit hev]
          simp; omega
        have HS2 : Hid (s * t8 a = sg a n * t8 a ^ (j + 1)) := by
          show _ = _
          rw [HS.out, Int.pow_succ, Int.mul_assoc]
        have HS3 := Lib.hid (one_mul_cases HS1.out (t8_cases a))
        obtain ⟨b1, b2⟩ := one_bounds HS3.out
        clear hev
        go_wp2_with (go_at_call 74; ((with_reducible refine (HTW.out _).mono ?_); rintro e w' ⟨rfl, rfl⟩))
        go_round
        case rel => exact ⟨j + 1, f, r / 2, s * t8 a, congrArg _ HWR.out, rfl, HQ2.out, hq1, hmr2, ⟨b1, b2⟩, HST2.out, HS2.out, HS3.out⟩
        case measure => simp only [intOf]; rw [HWR.out]; simp; omega
      · have e1 : ((r : Int) % 2 == 0) = false := by rw [beq_eq_false_iff_ne]; omega
        have hodd : r % 2 = 1 := by omega
        have HST2 : Hid (strip n.natAbs 2 n.natAbs = (j, r)) := by
          show _ = _
          rw [HST.out]
          cases f with
          | zero => rfl
          | succ f => rw [strip_miss hev]; rfl
        have hr0 : 1 ≤ (r : Int) := by omega
        have hmod : Mag (a.natAbs % r) := by have := Nat.mod_lt a.natAbs (show 0 < r by omega); unfold Mag at *; omega
        have HJA := Lib.hid (fun W => jacobi_any (a.natAbs % r) r W hmod hmr hodd)
        have hj := jac_cases (a.natAbs % r) r
        have HFIN := Lib.hid (kron_fin (a := a) (n := n) hn0 HBE.out HST2.out HS.out)
        have HKA : Hid (((a.natAbs : Int) % (r : Int)) = ((a.natAbs % r : Nat) : Int)) := by show _ = _; rw [natmod_cast]
        have hj1 : -1 ≤ jac (a.natAbs % r) r ∧ jac (a.natAbs % r) r ≤ 1 := by omega
        obtain ⟨hj2, hj3⟩ := hj1
        have hp1 : -1 ≤ s * jac (a.natAbs % r) r ∧ s * jac (a.natAbs % r) r ≤ 1 := by rcases HS1.out with h | h <;> rw [h] <;> omega
        have hp2 : -1 ≤ -s * jac (a.natAbs % r) r ∧ -s * jac (a.natAbs % r) r ≤ 1 := by rcases HS1.out with h | h <;> rw [h] <;> omega
        obtain ⟨hp3, hp4⟩ := hp1
        obtain ⟨hp5, hp6⟩ := hp2
        clear hev hodd hj HST
        by_cases h4 : r % 4 = 3
        · have e2 : ((r : Int) % 4 == 3) = true := by rw [beq_iff_eq]; omega
          have HF := Lib.hid (HFIN.out.1 ⟨hneg, h4⟩)
          clear h4
          go_wp2_with (first
            | (go_at_call 71; ((with_reducible refine (HABA.out _).mono ?_); rintro e w' ⟨rfl, rfl⟩))
            | (go_at_call 75; (refine (Eq.mpr (by rw [HKA.out]) (HJA.out _) : Calls _ _ _ _ _).mono ?_; rintro e w' ⟨rfl, rfl⟩)))
          go_ret
          exact ⟨ret_int' HF.out, rfl⟩
        · have e2 : ((r : Int) % 4 == 3) = false := by rw [beq_eq_false_iff_ne]; omega
          have HF := Lib.hid (HFIN.out.2 (by omega))
          clear h4
          go_wp2_with (first
            | (go_at_call 71; ((with_reducible refine (HABA.out _).mono ?_); rintro e w' ⟨rfl, rfl⟩))
            | (go_at_call 75; (refine (Eq.mpr (by rw [HKA.out]) (HJA.out _) : Calls _ _ _ _ _).mono ?_; rintro e w' ⟨rfl, rfl⟩)))
          go_ret
          exact ⟨ret_int' HF.out, rfl⟩
  · have HSV : Hid (1 = sg a n) := by show 1 = sg a n; unfold sg; rw [if_neg (by omega)]
    go_wp2_with (go_at_call 71; ((with_reducible refine (HABN.out _).mono ?_); rintro e w' ⟨rfl, rfl⟩))
    go_loop [5, 6] (fun S R => ∃ (j f r : Nat) (s : Int), R = .int .u64 r ∧ S = .int .i64 s ∧ Hid (r ≤ f) ∧ 1 ≤ r ∧ Mag r ∧ (-1 ≤ s ∧ s ≤ 1) ∧ Hid (strip n.natAbs 2 n.natAbs = (j + (strip f 2 r).1, (strip f 2 r).2)) ∧ Hid (s = sg a n * t8 a ^ j) ∧ Hid (s = 1 ∨ s = -1)) (fun _ R => (intOf R).toNat)
    case atStart => exact ⟨0, n.natAbs, n.natAbs, 1, rfl, rfl, Nat.le_refl _, hn1, HMN.out, by omega, by show _ = _; simp, by show _ = _; rw [Int.pow_zero, Int.mul_one]; exact HSV.out, by show _ ∨ _; omega⟩
    case round =>
      obtain ⟨j, f, r, s, rfl, rfl, Hf, hr1, hmr, ⟨s1, s2⟩, HST, HS, HS1⟩ := hrel
      by_cases hev : r % 2 = 0
      · have e1 : ((r : Int) % 2 == 0) = true := by rw [beq_iff_eq]; omega
        obtain ⟨f, rfl⟩ : ∃ f', f = f' + 1 := ⟨f - 1, by have := Hf.out; omega⟩
        have hq1 : 1 ≤ r / 2 := by omega
        have hq2 : r / 2 < r := by omega
        have HQ2 := Lib.hid (div_small (f := f) (show 2 ≤ 2 by omega) hr1 Hf.out)
        have HWR := Lib.hid (u64_half hmr)
        have hmr2 : Mag (r / 2) := by unfold Mag at *; omega
        have HST2 : Hid (strip n.natAbs 2 n.natAbs = (j + 1 + (strip f 2 (r / 2)).1, (strip f 2 (r / 2)).2)) := by
          show _ = _
          rw [HST.out, strip_hit hev]
          simp; omega
        have HS2 : Hid (s * t8 a = sg a n * t8 a ^ (j + 1)) := by
          show _ = _
          rw [HS.out, Int.pow_succ, Int.mul_assoc]
        have HS3 := Lib.hid (one_mul_cases HS1.out (t8_cases a))
        obtain ⟨b1, b2⟩ := one_bounds HS3.out
        clear hev
        go_wp2_with (go_at_call 74; ((with_reducible refine (HTW.out _).mono ?_); rintro e w' ⟨rfl, rfl⟩))
        go_round
        case rel => exact ⟨j + 1, f, r / 2, s * t8 a, congrArg _ HWR.out, rfl, HQ2.out, hq1, hmr2, ⟨b1, b2⟩, HST2.out, HS2.out, HS3.out⟩
        case measure => simp only [intOf]; rw [HWR.out]; simp; omega
      · have e1 : ((r : Int) % 2 == 0) = false := by rw [beq_eq_false_iff_ne]; omega
        have hodd : r % 2 = 1 := by omega
        have HST2 : Hid (strip n.natAbs 2 n.natAbs = (j, r)) := by
          show _ = _
          rw [HST.out]
          cases f with
          | zero => rfl
          | succ f => rw [strip_miss hev]; rfl
        have hr0 : 1 ≤ (r : Int) := by omega
        have hmod : Mag (a.natAbs % r) := by have := Nat.mod_lt a.natAbs (show 0 < r by omega); unfold Mag at *; omega
        have HJA := Lib.hid (fun W => jacobi_any (a.natAbs % r) r W hmod hmr hodd)
        have hj := jac_cases (a.natAbs % r) r
        have HFIN := Lib.hid (kron_fin (a := a) (n := n) hn0 HBE.out HST2.out HS.out)
        have HKA : Hid (((a.natAbs : Int) % (r : Int)) = ((a.natAbs % r : Nat) : Int)) := by show _ = _; rw [natmod_cast]
        have hj1 : -1 ≤ jac (a.natAbs % r) r ∧ jac (a.natAbs % r) r ≤ 1 := by omega
        obtain ⟨hj2, hj3⟩ := hj1
        have hp1 : -1 ≤ s * jac (a.natAbs % r) r ∧ s * jac (a.natAbs % r) r ≤ 1 := by rcases HS1.out with h | h <;> rw [h] <;> omega
        have hp2 : -1 ≤ -s * jac (a.natAbs % r) r ∧ -s * jac (a.natAbs % r) r ≤ 1 := by rcases HS1.out with h | h <;> rw [h] <;> omega
        obtain ⟨hp3, hp4⟩ := hp1
        obtain ⟨hp5, hp6⟩ := hp2
        clear hev hodd hj HST
        go_wp2_with (first
          | (go_at_call 71; ((with_reducible refine (HABA.out _).mono ?_); rintro e w' ⟨rfl, rfl⟩))
          | (go_at_call 75; (refine (Eq.mpr (by rw [HKA.out]) (HJA.out _) : Calls _ _ _ _ _).mono ?_; rintro e w' ⟨rfl, rfl⟩)))
        go_ret
        exact ⟨ret_int' (HFIN.out.2 (by omega)), rfl⟩
  · have HSV : Hid (1 = sg a n) := by show 1 = sg a n; unfold sg; rw [if_neg (by omega)]
    go_wp2_with (go_at_call 71; ((with_reducible refine (HABN.out _).mono ?_); rintro e w' ⟨rfl, rfl⟩))
    go_loop [5, 6] (fun S R => ∃ (j f r : Nat) (s : Int), R = .int .u64 r ∧ S = .int .i64 s ∧ Hid (r ≤ f) ∧ 1 ≤ r ∧ Mag r ∧ (-1 ≤ s ∧ s ≤ 1) ∧ Hid (strip n.natAbs 2 n.natAbs = (j + (strip f 2 r).1, (strip f 2 r).2)) ∧ Hid (s = sg a n * t8 a ^ j) ∧ Hid (s = 1 ∨ s = -1)) (fun _ R => (intOf R).toNat)
    case atStart => exact ⟨0, n.natAbs, n.natAbs, 1, rfl, rfl, Nat.le_refl _, hn1, HMN.out, by omega, by show _ = _; simp, by show _ = _; rw [Int.pow_zero, Int.mul_one]; exact HSV.out, by show _ ∨ _; omega⟩
    case round =>
      obtain ⟨j, f, r, s, rfl, rfl, Hf, hr1, hmr, ⟨s1, s2⟩, HST, HS, HS1⟩ := hrel
      by_cases hev : r % 2 = 0
      · have e1 : ((r : Int) % 2 == 0) = true := by rw [beq_iff_eq]; omega
        obtain ⟨f, rfl⟩ : ∃ f', f = f' + 1 := ⟨f - 1, by have := Hf.out; omega⟩
        have hq1 : 1 ≤ r / 2 := by omega
        have hq2 : r / 2 < r := by omega
        have HQ2 := Lib.hid (div_small (f := f) (show 2 ≤ 2 by omega) hr1 Hf.out)
        have HWR := Lib.hid (u64_half hmr)
        have hmr2 : Mag (r / 2) := by unfold Mag at *; omega
        have HST2 : Hid (strip n.natAbs 2 n.natAbs = (j + 1 + (strip f 2 (r / 2)).1, (strip f 2 (r / 2)).2)) := by
          show _ = _
          rw [HST.out, strip_hit hev]
          simp; omega
        have HS2 : Hid (s * t8 a = sg a n * t8 a ^ (j + 1)) := by
          show _ = _
          rw [HS.out, Int.pow_succ, Int.mul_assoc]
        have HS3 := Lib.hid (one_mul_cases HS1.out (t8_cases a))
        obtain ⟨b1, b2⟩ := one_bounds HS3.out
        clear hev
        go_wp2_with (go_at_call 74; ((with_reducible refine (HTW.out _).mono ?_); rintro e w' ⟨rfl, rfl⟩))
        go_round
        case rel => exact ⟨j + 1, f, r / 2, s * t8 a, congrArg _ HWR.out, rfl, HQ2.out, hq1, hmr2, ⟨b1, b2⟩, HST2.out, HS2.out, HS3.out⟩
        case measure => simp only [intOf]; rw [HWR.out]; simp; omega
      · have e1 : ((r : Int) % 2 == 0) = false := by rw [beq_eq_false_iff_ne]; omega
        have hodd : r % 2 = 1 := by omega
        have HST2 : Hid (strip n.natAbs 2 n.natAbs = (j, r)) := by
          show _ = _
          rw [HST.out]
          cases f with
          | zero => rfl
          | succ f => rw [strip_miss hev]; rfl
        have hr0 : 1 ≤ (r : Int) := by omega
        have hmod : Mag (a.natAbs % r) := by have := Nat.mod_lt a.natAbs (show 0 < r by omega); unfold Mag at *; omega
        have HJA := Lib.hid (fun W => jacobi_any (a.natAbs % r) r W hmod hmr hodd)
        have hj := jac_cases (a.natAbs % r) r
        have HFIN := Lib.hid (kron_fin (a := a) (n := n) hn0 HBE.out HST2.out HS.out)
        have HKA : Hid (((a.natAbs : Int) % (r : Int)) = ((a.natAbs % r : Nat) : Int)) := by show _ = _; rw [natmod_cast]
        have hj1 : -1 ≤ jac (a.natAbs % r) r ∧ jac (a.natAbs % r) r ≤ 1 := by omega
        obtain ⟨hj2, hj3⟩ := hj1
        have hp1 : -1 ≤ s * jac (a.natAbs % r) r ∧ s * jac (a.natAbs % r) r ≤ 1 := by rcases HS1.out with h | h <;> rw [h] <;> omega
        have hp2 : -1 ≤ -s * jac (a.natAbs % r) r ∧ -s * jac (a.natAbs % r) r ≤ 1 := by rcases HS1.out with h | h <;> rw [h] <;> omega
        obtain ⟨hp3, hp4⟩ := hp1
        obtain ⟨hp5, hp6⟩ := hp2
        clear hev hodd hj HST
        by_cases h4 : r % 4 = 3
        · have e2 : ((r : Int) % 4 == 3) = true := by rw [beq_iff_eq]; omega
          have HF := Lib.hid (HFIN.out.1 ⟨hneg, h4⟩)
          clear h4
          go_wp2_with (first
            | (go_at_call 71; ((with_reducible refine (HABA.out _).mono ?_); rintro e w' ⟨rfl, rfl⟩))
            | (go_at_call 75; (refine (Eq.mpr (by rw [HKA.out]) (HJA.out _) : Calls _ _ _ _ _).mono ?_; rintro e w' ⟨rfl, rfl⟩)))
          go_ret
          exact ⟨ret_int' HF.out, rfl⟩
        · have e2 : ((r : Int) % 4 == 3) = false := by rw [beq_eq_false_iff_ne]; omega
          have HF := Lib.hid (HFIN.out.2 (by omega))
          clear h4
          go_wp2_with (first
            | (go_at_call 71; ((with_reducible refine (HABA.out _).mono ?_); rintro e w' ⟨rfl, rfl⟩))
            | (go_at_call 75; (refine (Eq.mpr (by rw [HKA.out]) (HJA.out _) : Calls _ _ _ _ _).mono ?_; rintro e w' ⟨rfl, rfl⟩)))
          go_ret
          exact ⟨ret_int' HF.out, rfl⟩
  · have HSV : Hid (1 = sg a n) := by show 1 = sg a n; unfold sg; rw [if_neg (by omega)]
    go_wp2_with (go_at_call 71; ((with_reducible refine (HABN.out _).mono ?_); rintro e w' ⟨rfl, rfl⟩))
    go_loop [5, 6] (fun S R => ∃ (j f r : Nat) (s : Int), R = .int .u64 r ∧ S = .int .i64 s ∧ Hid (r ≤ f) ∧ 1 ≤ r ∧ Mag r ∧ (-1 ≤ s ∧ s ≤ 1) ∧ Hid (strip n.natAbs 2 n.natAbs = (j + (strip f 2 r).1, (strip f 2 r).2)) ∧ Hid (s = sg a n * t8 a ^ j) ∧ Hid (s = 1 ∨ s = -1)) (fun _ R => (intOf R).toNat)
    case atStart => exact ⟨0, n.natAbs, n.natAbs, 1, rfl, rfl, Nat.le_refl _, hn1, HMN.out, by omega, by show _ = _; simp, by show _ = _; rw [Int.pow_zero, Int.mul_one]; exact HSV.out, by show _ ∨ _; omega⟩
    case round =>
      obtain ⟨j, f, r, s, rfl, rfl, Hf, hr1, hmr, ⟨s1, s2⟩, HST, HS, HS1⟩ := hrel
      by_cases hev : r % 2 = 0
      · have e1 : ((r : Int) % 2 == 0) = true := by rw [beq_iff_eq]; omega
        obtain ⟨f, rfl⟩ : ∃ f', f = f' + 1 := ⟨f - 1, by have := Hf.out; omega⟩
        have hq1 : 1 ≤ r / 2 := by omega
        have hq2 : r / 2 < r := by omega
        have HQ2 := Lib.hid (div_small (f := f) (show 2 ≤ 2 by omega) hr1 Hf.out)
        have HWR := Lib.hid (u64_half hmr)
        have hmr2 : Mag (r / 2) := by unfold Mag at *; omega
        have HST2 : Hid (strip n.natAbs 2 n.natAbs = (j + 1 + (strip f 2 (r / 2)).1, (strip f 2 (r / 2)).2)) := by
          show _ = _
          rw [HST.out, strip_hit hev]
          simp; omega
        have HS2 : Hid (s * t8 a = sg a n * t8 a ^ (j + 1)) := by
          show _ = _
          rw [HS.out, Int.pow_succ, Int.mul_assoc]
        have HS3 := Lib.hid (one_mul_cases HS1.out (t8_cases a))
        obtain ⟨b1, b2⟩ := one_bounds HS3.out
        clear hev
        go_wp2_with (go_at_call 74; ((with_reducible refine (HTW.out _).mono ?_); rintro e w' ⟨rfl, rfl⟩))
        go_round
        case rel => exact ⟨j + 1, f, r / 2, s * t8 a, congrArg _ HWR.out, rfl, HQ2.out, hq1, hmr2, ⟨b1, b2⟩, HST2.out, HS2.out, HS3.out⟩
        case measure => simp only [intOf]; rw [HWR.out]; simp; omega
      · have e1 : ((r : Int) % 2 == 0) = false := by rw [beq_eq_false_iff_ne]; omega
        have hodd : r % 2 = 1 := by omega
        have HST2 : Hid (strip n.natAbs 2 n.natAbs = (j, r)) := by
          show _ = _
          rw [HST.out]
          cases f with
          | zero => rfl
          | succ f => rw [strip_miss hev]; rfl
        have hr0 : 1 ≤ (r : Int) := by omega
        have hmod : Mag (a.natAbs % r) := by have := Nat.mod_lt a.natAbs (show 0 < r by omega); unfold Mag at *; omega
        have HJA := Lib.hid (fun W => jacobi_any (a.natAbs % r) r W hmod hmr hodd)
        have hj := jac_cases (a.natAbs % r) r
        have HFIN := Lib.hid (kron_fin (a := a) (n := n) hn0 HBE.out HST2.out HS.out)
        have HKA : Hid (((a.natAbs : Int) % (r : Int)) = ((a.natAbs % r : Nat) : Int)) := by show _ = _; rw [natmod_cast]
        have hj1 : -1 ≤ jac (a.natAbs % r) r ∧ jac (a.natAbs % r) r ≤ 1 := by omega
        obtain ⟨hj2, hj3⟩ := hj1
        have hp1 : -1 ≤ s * jac (a.natAbs % r) r ∧ s * jac (a.natAbs % r) r ≤ 1 := by rcases HS1.out with h | h <;> rw [h] <;> omega
        have hp2 : -1 ≤ -s * jac (a.natAbs % r) r ∧ -s * jac (a.natAbs % r) r ≤ 1 := by rcases HS1.out with h | h <;> rw [h] <;> omega
        obtain ⟨hp3, hp4⟩ := hp1
        obtain ⟨hp5, hp6⟩ := hp2
        clear hev hodd hj HST
        go_wp2_with (first
          | (go_at_call 71; ((with_reducible refine (HABA.out _).mono ?_); rintro e w' ⟨rfl, rfl⟩))
          | (go_at_call 75; (refine (Eq.mpr (by rw [HKA.out]) (HJA.out _) : Calls _ _ _ _ _).mono ?_; rintro e w' ⟨rfl, rfl⟩)))
        go_ret
        exact ⟨ret_int' (HFIN.out.2 (by omega)), rfl⟩

theorem kronk_any (a n : Int) (w : World) (a1 : -1000000 ≤ a) (a2 : a ≤ 1000000) (n1 : -1000000 ≤ n) (n2 : n ≤ 1000000) :
    Calls Try.prog 64 #[.int .i64 a, .int .i64 n] w fun e w' => e = .returned (.int .i64 (kron a n)) ∧ w = w' := by
  by_cases hn : n = 0
  · subst hn; exact kron_zero a w
  · by_cases h : a % 2 = 0 ∧ n % 2 = 0
    · exact kron_even2 a n w hn h
    · refine kron_main a n w a1 a2 n1 n2 hn h ?_
      by_cases ha : a % 2 = 0
      · right
        have hn2 : ¬ n % 2 = 0 := fun h2 => h ⟨ha, h2⟩
        refine ⟨⟨by rw [beq_iff_eq]; exact (tmod_two a).2 ha, by rw [beq_iff_eq]; exact ha⟩, ?_, ?_⟩
        · rw [beq_eq_false_iff_ne]
          intro h2
          exact hn2 ((tmod_two n).1 h2)
        · rw [beq_eq_false_iff_ne]; exact hn2
      · left
        constructor
        · rw [beq_eq_false_iff_ne]
          intro h2
          exact ha ((tmod_two a).1 h2)
        · rw [beq_eq_false_iff_ne]; exact ha
end Go.Proofs.Ytlagljnhbhnelaa
