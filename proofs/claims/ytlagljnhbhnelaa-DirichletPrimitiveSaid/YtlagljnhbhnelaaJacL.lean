/- Contracts of symbolOfTwo, jacobi and Kronecker. -/
import Derived.Test.YtlagljnhbhnelaaArL
import Derived.Test.YtlagljnhbhnelaaGcdL
import Derived.Test.YtlagljnhbhnelaaJacMath
namespace Go.Proofs.Ytlagljnhbhnelaa
open Go.RowKit
set_option linter.unusedVariables false
set_option linter.unusedSimpArgs false

def Mag (p : Nat) : Prop := p ≤ 9223372036854775808
theorem ret_int' {k : IntKind} {a b : Int} (h : a = b) : Ending.returned (.int k a) = .returned (.int k b) := by rw [h]
set_option maxHeartbeats 800000 in
theorem two_any (n : Nat) (w : World) : Calls Try.prog 74 #[.int .u64 n] w fun e w' => e = .returned (.int .i64 (two8 n)) ∧ w = w' := by
  by_cases h1 : n % 8 = 1
  · have e1 : ((n : Int) % 8 == 1) = true := by rw [beq_iff_eq]; omega
    have HT : Hid ((1 : Int) = two8 n) := by show _ = _; unfold two8; rw [if_pos (.inl h1)]
    clear h1
    go_enter Try.func74, Try.ntmps74
    go_wp2
    go_ret
    exact ⟨ret_int' HT.out, rfl⟩
  · have e1 : ((n : Int) % 8 == 1) = false := by rw [beq_eq_false_iff_ne]; omega
    by_cases h7 : n % 8 = 7
    · have e2 : ((n : Int) % 8 == 7) = true := by rw [beq_iff_eq]; omega
      have HT : Hid ((1 : Int) = two8 n) := by show _ = _; unfold two8; rw [if_pos (.inr h7)]
      clear h1 h7
      go_enter Try.func74, Try.ntmps74
      go_wp2
      go_ret
      exact ⟨ret_int' HT.out, rfl⟩
    · have e2 : ((n : Int) % 8 == 7) = false := by rw [beq_eq_false_iff_ne]; omega
      have HT : Hid ((-1 : Int) = two8 n) := by show _ = _; unfold two8; rw [if_neg (by omega)]
      clear h1 h7
      go_enter Try.func74, Try.ntmps74
      go_wp2
      go_ret
      exact ⟨ret_int' HT.out, rfl⟩

theorem two8_cases (n : Nat) : two8 n = 1 ∨ two8 n = -1 := by unfold two8; split <;> simp
theorem u64_half {y : Nat} (h : Mag y) : IntKind.u64.wrap ((y : Int) / 2) = ((y / 2 : Nat) : Int) := by
  unfold Mag at h
  simp [IntKind.wrap, IntKind.bits, IntKind.signed]; omega
theorem one_mul_cases {a b : Int} (ha : a = 1 ∨ a = -1) (hb : b = 1 ∨ b = -1) : a * b = 1 ∨ a * b = -1 := by
  rcases ha with rfl | rfl <;> rcases hb with rfl | rfl <;> decide
theorem one_bounds {a : Int} (ha : a = 1 ∨ a = -1) : -1 ≤ a ∧ a ≤ 1 := by omega

set_option maxHeartbeats 1600000 in
set_option maxRecDepth 1000000 in
theorem jacobi_any (x0 n0 : Nat) (w : World) (hx : Mag x0) (hn : Mag n0) (hodd : n0 % 2 = 1) :
    Calls Try.prog 75 #[.int .u64 x0, .int .u64 n0] w fun e w' => e = .returned (.int .i64 (jac x0 n0)) ∧ w = w' := by
  have HO := Lib.hid hodd
  clear hodd
  go_enter Try.func75, Try.ntmps75
  go_wp2
  go_loop [0, 1, 5] (fun X N S => ∃ (x n : Nat) (s : Int), X = .int .u64 x ∧ N = .int .u64 n ∧ S = .int .i64 s ∧ Mag x ∧ Mag n ∧ (-1 ≤ s ∧ s ≤ 1) ∧ Hid (s = 1 ∨ s = -1) ∧ Hid (n % 2 = 1) ∧ Hid (s * jac x n = jac x0 n0)) (fun X _ _ => (intOf X).toNat)
  case atStart => exact ⟨x0, n0, 1, rfl, rfl, rfl, hx, hn, by omega, .inl rfl, HO.out, by show _ = _; rw [Int.one_mul]⟩
  case round =>
    obtain ⟨x, n, s, rfl, rfl, rfl, hmx, hmn, ⟨s1, s2⟩, HS, HN, HJ⟩ := hrel
    by_cases hz : x = 0
    · subst hz
      by_cases hn1 : n = 1
      · subst hn1
        have HR : Hid (s = jac x0 n0) := by show _ = _; rw [← HJ.out, jac_one, Int.mul_one]
        go_wp2
        go_ret
        exact ⟨ret_int' HR.out, rfl⟩
      · have HR : Hid ((0 : Int) = jac x0 n0) := by show _ = _; rw [← HJ.out, jac_zero, if_neg hn1, Int.mul_zero]
        have e1 : ((n : Int) == 1) = false := by rw [beq_eq_false_iff_ne]; omega
        clear hn1
        go_wp2
        go_ret
        exact ⟨ret_int' HR.out, rfl⟩
    · have hx1 : 0 < (x : Int) := by omega
      have hx2 : ((x : Int) != 0) = true := by rw [bne_iff_ne]; omega
      go_wp2
      go_loop [0, 5] (fun X S => ∃ (y : Nat) (t : Int), X = .int .u64 y ∧ S = .int .i64 t ∧ Mag y ∧ 1 ≤ y ∧ y ≤ x ∧ (-1 ≤ t ∧ t ≤ 1) ∧ Hid (t = 1 ∨ t = -1) ∧ Hid (t * jac y n = jac x0 n0)) (fun X _ => (intOf X).toNat)
      case atStart => exact ⟨x, s, rfl, rfl, hmx, by omega, Nat.le_refl _, ⟨s1, s2⟩, HS.out, HJ.out⟩
      case round =>
        obtain ⟨y, t, rfl, rfl, hmy, hy1, hyx, ⟨t1, t2⟩, HT, HJ2⟩ := hrel
        by_cases hev : y % 2 = 0
        · have e1 : ((y : Int) % 2 == 0) = true := by rw [beq_iff_eq]; omega
          have HJ3 : Hid (t * two8 n * jac (y / 2) n = jac x0 n0) := by
            show _ = _
            rw [← HJ2.out, ← jac_two HN.out, Int.mul_assoc, ← jac_mul _ _ _ HN.out, show 2 * (y / 2) = y by omega]
          have HT2 := Lib.hid (one_mul_cases HT.out (two8_cases n))
          obtain ⟨b1, b2⟩ := one_bounds HT2.out
          have hmy2 : Mag (y / 2) := by unfold Mag at *; omega
          have hy2 : 1 ≤ y / 2 := by omega
          have hy3 : y / 2 < y := by omega
          have HWR := Lib.hid (u64_half hmy)
          clear hev
          go_wp2_with (go_at_call 74; ((with_reducible refine (two_any n _).mono ?_); rintro e w' ⟨rfl, rfl⟩))
          go_round
          case rel => exact ⟨y / 2, t * two8 n, congrArg _ HWR.out, rfl, hmy2, hy2, by omega, ⟨b1, b2⟩, HT2.out, HJ3.out⟩
          case measure => simp only [intOf]; rw [HWR.out]; simp; omega
        · have e1 : ((y : Int) % 2 == 0) = false := by rw [beq_eq_false_iff_ne]; omega
          have HY : Hid (y % 2 = 1) := by show _ = _; omega
          have hlt : n % y < y := Nat.mod_lt _ (by omega)
          have hmod : Mag (n % y) := by unfold Mag at *; omega
          have hy0 : 0 < (y : Int) := by omega
          have hy4 : 1 ≤ (y : Int) := by omega
          have HREC : Hid (jac y n = (if y % 4 = 3 ∧ n % 4 = 3 then -1 else 1) * jac (n % y) y) := by
            show _ = _
            rw [jac_mod]; exact jac_recip HN.out HY.out
          by_cases h4 : y % 4 = 3 ∧ n % 4 = 3
          · have e2 : ((y : Int) % 4 == 3) = true := by rw [beq_iff_eq]; omega
            have e3 : ((n : Int) % 4 == 3) = true := by rw [beq_iff_eq]; omega
            have HJ3 : Hid (-t * jac (n % y) y = jac x0 n0) := by
              show _ = _
              rw [← HJ2.out, HREC.out, if_pos h4]; grind
            have HT2 : Hid (-t = 1 ∨ -t = -1) := by have := HT.out; show _ ∨ _; omega
            clear hev h4 HREC
            go_wp2
            go_round
            case rel => exact ⟨n % y, y, -t, ret_nat _ _, rfl, rfl, hmod, hmy, by omega, HT2.out, HY.out, HJ3.out⟩
            case measure => simp [intOf]; omega
          · have HJ3 : Hid (t * jac (n % y) y = jac x0 n0) := by
              show _ = _
              rw [← HJ2.out, HREC.out, if_neg h4]; grind
            by_cases h5 : y % 4 = 3
            · have e2 : ((y : Int) % 4 == 3) = true := by rw [beq_iff_eq]; omega
              have e3 : ((n : Int) % 4 == 3) = false := by rw [beq_eq_false_iff_ne]; omega
              clear hev h4 h5 HREC
              go_wp2
              go_round
              case rel => exact ⟨n % y, y, t, ret_nat _ _, rfl, rfl, hmod, hmy, ⟨t1, t2⟩, HT.out, HY.out, HJ3.out⟩
              case measure => simp [intOf]; omega
            · have e2 : ((y : Int) % 4 == 3) = false := by rw [beq_eq_false_iff_ne]; omega
              clear hev h4 h5 HREC
              go_wp2
              go_round
              case rel => exact ⟨n % y, y, t, ret_nat _ _, rfl, rfl, hmod, hmy, ⟨t1, t2⟩, HT.out, HY.out, HJ3.out⟩
              case measure => simp [intOf]; omega


/-- The Kronecker symbol of a negative number of at most four over an odd number. -/
def krO (A n : Nat) : Int := (if n % 4 = 3 then -1 else 1) * jac (A % n) n
def krA (A n : Nat) : Int := if n = 2 then (if A % 2 = 0 then 0 else -1) else krO A n
theorem natcast_mod4 (n : Nat) : ((n : Int) % 4 == 3) = decide (n % 4 = 3) := by
  by_cases h : n % 4 = 3
  · rw [decide_eq_true h, beq_iff_eq]; omega
  · rw [decide_eq_false h, beq_eq_false_iff_ne]; omega
set_option maxHeartbeats 1600000 in
set_option maxRecDepth 1000000 in
theorem kron_odd (A n : Nat) (w : World) (hA : A = 3 ∨ A = 4) (n1 : 1 ≤ n) (n2 : (n : Int) ≤ 1000) (hodd : n % 2 = 1) :
    Calls Try.prog 64 #[.int .i64 (-(A : Int)), .int .i64 (n : Int)] w fun e w' => e = .returned (.int .i64 (krO A n)) ∧ w = w' := by
  have HabN : Hid (∀ W, Calls Try.prog 71 #[.int .i64 (n : Int)] W fun e w' => e = .returned (.int .u64 (n : Int)) ∧ W = w') := fun W => by
    have := absolute_any (n : Int) W (by unfold Mid; omega)
    rwa [show ((n : Int)).natAbs = n by omega] at this
  have HabA : Hid (∀ W, Calls Try.prog 71 #[.int .i64 (-(A : Int))] W fun e w' => e = .returned (.int .u64 (A : Int)) ∧ W = w') := fun W => by
    have := absolute_any (-(A : Int)) W (by unfold Mid; omega)
    rwa [show (-(A : Int)).natAbs = A by omega] at this
  have hlt : A % n < n := Nat.mod_lt _ (by omega)
  have HJ := Lib.hid (fun W => jacobi_any (A % n) n W (by unfold Mag; omega) (by unfold Mag; omega) hodd)
  have hq : (n : Int) % 2 = 1 := by omega
  have hq2 : ((n : Int) % 2 == 0) = false := by rw [hq]; rfl
  have hn0 : ((n : Int) == 0) = false := by rw [beq_eq_false_iff_ne]; omega
  have hng : ¬ (n : Int) < 0 := by omega
  have hmod : (A : Int) % (n : Int) = ((A % n : Nat) : Int) := (Int.natCast_emod A n).symm
  have hjc : -1 ≤ jac (A % n) n ∧ jac (A % n) n ≤ 1 := by rcases jac_cases (A % n) n with h | h | h <;> omega
  have hnp : 1 ≤ (n : Int) := by omega
  obtain ⟨j1, j2⟩ := hjc
  by_cases h4 : n % 4 = 3
  · have h43 : ((n : Int) % 4 == 3) = true := by rw [natcast_mod4, decide_eq_true h4]
    have HK : Hid (krO A n = -jac (A % n) n) := by show _ = _; unfold krO; rw [if_pos h4]; omega
    generalize jac (A % n) n = J at *
    generalize krO A n = K at *
    generalize A % n = r at *
    clear h4 hodd
    rcases hA with rfl | rfl
    all_goals
      simp only [show -((3 : Nat) : Int) = -3 from rfl, show -((4 : Nat) : Int) = -4 from rfl, show ((3 : Nat) : Int) = 3 from rfl, show ((4 : Nat) : Int) = 4 from rfl] at *
      go_enter Try.func64, Try.ntmps64
      go_wp2_with (first
        | (go_at_call 71; first
            | ((with_reducible refine (HabN.out _).mono ?_); rintro e w1 ⟨rfl, rfl⟩)
            | ((with_reducible refine (HabA.out _).mono ?_); rintro e w1 ⟨rfl, rfl⟩))
        | (go_at_call 75; ((with_reducible refine (HJ.out _).mono ?_); rintro e w1 ⟨rfl, rfl⟩))
        | fail)
      refine wp_loop_rounds 1 ?_
      rw [rounds_succ]
      go_wp2_with (first
        | (go_at_call 71; ((with_reducible refine (HabA.out _).mono ?_); rintro e w1 ⟨rfl, rfl⟩))
        | (go_at_call 75; ((with_reducible refine (HJ.out _).mono ?_); rintro e w1 ⟨rfl, rfl⟩))
        | fail)
      go_ret
      exact ⟨ret_int' HK.out.symm, rfl⟩
  · have h43 : ((n : Int) % 4 == 3) = false := by rw [natcast_mod4, decide_eq_false h4]
    have HK : Hid (krO A n = jac (A % n) n) := by show _ = _; unfold krO; rw [if_neg h4]; omega
    generalize jac (A % n) n = J at *
    generalize krO A n = K at *
    generalize A % n = r at *
    clear h4 hodd
    rcases hA with rfl | rfl
    all_goals
      simp only [show -((3 : Nat) : Int) = -3 from rfl, show -((4 : Nat) : Int) = -4 from rfl, show ((3 : Nat) : Int) = 3 from rfl, show ((4 : Nat) : Int) = 4 from rfl] at *
      go_enter Try.func64, Try.ntmps64
      go_wp2_with (first
        | (go_at_call 71; first
            | ((with_reducible refine (HabN.out _).mono ?_); rintro e w1 ⟨rfl, rfl⟩)
            | ((with_reducible refine (HabA.out _).mono ?_); rintro e w1 ⟨rfl, rfl⟩))
        | (go_at_call 75; ((with_reducible refine (HJ.out _).mono ?_); rintro e w1 ⟨rfl, rfl⟩))
        | fail)
      refine wp_loop_rounds 1 ?_
      rw [rounds_succ]
      go_wp2_with (first
        | (go_at_call 71; ((with_reducible refine (HabA.out _).mono ?_); rintro e w1 ⟨rfl, rfl⟩))
        | (go_at_call 75; ((with_reducible refine (HJ.out _).mono ?_); rintro e w1 ⟨rfl, rfl⟩))
        | fail)
      go_ret
      exact ⟨ret_int' HK.out.symm, rfl⟩
set_option maxHeartbeats 1600000 in
set_option maxRecDepth 1000000 in
theorem kron_even (A : Nat) (w : World) (hA : A = 3 ∨ A = 4) :
    Calls Try.prog 64 #[.int .i64 (-(A : Int)), .int .i64 2] w fun e w' => e = .returned (.int .i64 (krA A 2)) ∧ w = w' := by
  have HabN : Hid (∀ W, Calls Try.prog 71 #[.int .i64 2] W fun e w' => e = .returned (.int .u64 2) ∧ W = w') := fun W => by
    have := absolute_any 2 W (by unfold Mid; omega)
    exact this
  have HabA : Hid (∀ W, Calls Try.prog 71 #[.int .i64 (-(A : Int))] W fun e w' => e = .returned (.int .u64 (A : Int)) ∧ W = w') := fun W => by
    have := absolute_any (-(A : Int)) W (by unfold Mid; omega)
    rwa [show (-(A : Int)).natAbs = A by omega] at this
  have HJ : Hid (∀ W, Calls Try.prog 75 #[.int .u64 0, .int .u64 1] W fun e w' => e = .returned (.int .i64 1) ∧ W = w') := fun W => by
    have := jacobi_any 0 1 W (by unfold Mag; omega) (by unfold Mag; omega) rfl
    rwa [jac_one] at this
  have HT : Hid (∀ W, Calls Try.prog 74 #[.int .u64 (IntKind.u64.wrap (-3))] W fun e w' => e = .returned (.int .i64 (-1)) ∧ W = w') := fun W => by
    have := two_any 18446744073709551613 W
    rwa [show two8 18446744073709551613 = -1 by decide, show ((18446744073709551613 : Nat) : Int) = IntKind.u64.wrap (-3) by decide] at this
  rcases hA with rfl | rfl
  · simp only [show -((3 : Nat) : Int) = -3 from rfl, show ((3 : Nat) : Int) = 3 from rfl, show krA 3 2 = -1 from rfl] at *
    go_enter Try.func64, Try.ntmps64
    go_wp2_with (first
      | (go_at_call 71; first
          | ((with_reducible refine (HabN.out _).mono ?_); rintro e w1 ⟨rfl, rfl⟩)
          | ((with_reducible refine (HabA.out _).mono ?_); rintro e w1 ⟨rfl, rfl⟩))
      | fail)
    refine wp_loop_rounds 2 ?_
    rw [rounds_succ]
    go_wp2_with (first
      | (go_at_call 74; ((with_reducible refine (HT.out _).mono ?_); rintro e w1 ⟨rfl, rfl⟩))
      | fail)
    first
      | (rw [rounds_succ]
         go_wp2_with (first
           | (go_at_call 71; ((with_reducible refine (HabA.out _).mono ?_); rintro e w1 ⟨rfl, rfl⟩))
           | (go_at_call 75; ((with_reducible refine (HJ.out _).mono ?_); rintro e w1 ⟨rfl, rfl⟩))
           | fail)
         go_ret
         exact ⟨rfl, rfl⟩)
  · simp only [show -((4 : Nat) : Int) = -4 from rfl, show ((4 : Nat) : Int) = 4 from rfl, show krA 4 2 = 0 from rfl] at *
    go_enter Try.func64, Try.ntmps64
    go_wp2
    go_ret
    exact ⟨rfl, rfl⟩
end Go.Proofs.Ytlagljnhbhnelaa
