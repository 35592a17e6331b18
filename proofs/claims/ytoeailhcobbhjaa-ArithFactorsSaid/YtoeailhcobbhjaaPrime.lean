/- Contracts of IsPrime and of the reference's Prime. -/
import Derived.Test.YtoeailhcobbhjaaPure
import Derived.Test.YtoeailhcobbhjaaPrimeNums
namespace Go.Proofs.Ytoeailhcobbhjaa
open Go.RowKit

/-- What leastPrime's answer tells. -/
def LeastIs (n : Nat) (r : Int) : Prop := (r = (n : Int) ∧ Pr n) ∨ (r ≠ (n : Int) ∧ ¬ Pr n)
theorem least_div {n d : Nat} (h2 : 2 ≤ d) (hd : d < n) (h : n % d = 0) : LeastIs n (d : Int) :=
  .inr ⟨by omega, fun hp => hp.div h2 hd h⟩
theorem least_small {n d : Nat} (hn : 1 < n) (h2 : 2 ≤ d) (hp : Pr d) (h : n % d = 0) : LeastIs n (d : Int) := by
  by_cases e : d = n
  · subst e; exact .inl ⟨rfl, hp⟩
  · have := Nat.le_of_dvd (by omega) (Nat.dvd_of_mod_eq_zero h)
    exact least_div h2 (by omega) h
theorem pr2 : Pr 2 := ⟨by omega, fun d h2 hs => by have : d * 2 ≤ d * d := Nat.mul_le_mul_left d h2; omega⟩
theorem pr3 : Pr 3 := ⟨by omega, fun d h2 hs => by have : d * 2 ≤ d * d := Nat.mul_le_mul_left d h2; omega⟩
theorem sq_lt {d n : Nat} (hd : 5 ≤ d) (h : d * d ≤ n) : d + 2 < n := by
  have : 5 * d ≤ d * d := Nat.mul_le_mul_right d hd
  omega
theorem sq_bound {d : Nat} (h : (d : Int) * (d : Int) ≤ 2147483647) : (d : Int) ≤ 46340 := by
  rcases Int.lt_or_le 46340 (d : Int) with h' | h'
  · have : (46341 : Int) * 46341 ≤ (d : Int) * (d : Int) := Int.mul_le_mul (by omega) (by omega) (by omega) (by omega)
    omega
  · exact h'

set_option maxHeartbeats 800000 in
set_option maxRecDepth 1000000 in
theorem least_any (n : Nat) (w : World) (hn : 1 < n) (hn2 : (n : Int) ≤ 2147483647) :
    Calls Try.prog 58 #[.int .i64 n] w fun e w' => ∃ r : Int, e = .returned (.int .i64 r) ∧ LeastIs n r ∧ w = w' := by
  by_cases h2 : n % 2 = 0
  · have HL := Lib.hid (least_small hn (by omega) pr2 h2)
    have e2 : ((n : Int) % 2 == 0) = true := by simp; omega
    clear h2
    go_enter Try.func58, Try.ntmps58
    go_wp2
    go_ret
    exact ⟨_, rfl, HL.out, rfl⟩
  · have e2 : ((n : Int) % 2 == 0) = false := by simp; omega
    by_cases h3 : n % 3 = 0
    · have HL := Lib.hid (least_small hn (by omega) pr3 h3)
      have e3 : ((n : Int) % 3 == 0) = true := by simp; omega
      clear h2 h3
      go_enter Try.func58, Try.ntmps58
      go_wp2
      go_ret
      exact ⟨_, rfl, HL.out, rfl⟩
    · have e3 : ((n : Int) % 3 == 0) = false := by simp; omega
      have HS := Lib.hid (clear_start h2 h3)
      clear h2 h3
      go_enter Try.func58, Try.ntmps58
      go_wp2
      go_loop [3] (fun D => ∃ d : Nat, D = .int .i64 d ∧ 5 ≤ d ∧ (d : Int) ≤ 46346 ∧ Hid (d % 6 = 5) ∧ Hid (Clear n d)) (fun D => 50000 - (intOf D).toNat)
      case atStart => exact ⟨5, rfl, by omega, by omega, rfl, HS.out⟩
      case round =>
        obtain ⟨d, rfl, hd, hd2, H6, HC⟩ := hrel
        have hdd : (d : Int) * (d : Int) ≤ 46346 * 46346 := Int.mul_le_mul hd2 hd2 (by omega) (by omega)
        have hdd0 : 0 ≤ (d : Int) * (d : Int) := Int.mul_nonneg (by omega) (by omega)
        by_cases hs : d * d ≤ n
        · have hs2 : (d : Int) * (d : Int) ≤ (n : Int) := by rw [← Int.natCast_mul]; omega
          have hd3 := sq_bound (d := d) (by omega)
          have hlt := sq_lt hd hs
          by_cases m1 : n % d = 0
          · have HL := Lib.hid (least_div (by omega) (by omega) m1)
            have f1 : ((n : Int) % (d : Int) == 0) = true := by rw [natmod_cast, m1]; rfl
            clear m1
            go_wp2
            go_ret
            exact ⟨_, rfl, HL.out, rfl⟩
          · have f1 : ((n : Int) % (d : Int) == 0) = false := by rw [natmod_cast]; simp; omega
            by_cases m2 : n % (d + 2) = 0
            · have HL := Lib.hid (least_div (by omega) (by omega) m2)
              have f2 : ((n : Int) % ((d : Int) + 2) == 0) = true := by rw [show (d : Int) + 2 = ((d + 2 : Nat) : Int) by omega, natmod_cast, m2]; rfl
              clear m1 m2
              go_wp2
              go_ret
              exact ⟨_, rfl, HL.out, rfl⟩
            · have f2 : ((n : Int) % ((d : Int) + 2) == 0) = false := by rw [show (d : Int) + 2 = ((d + 2 : Nat) : Int) by omega, natmod_cast, beq_eq_false_iff_ne]; intro h; exact m2 (Int.ofNat_eq_zero.1 h)
              have HW := Lib.hid (wheel HC.out hd H6.out m1 m2)
              clear m1 m2
              go_wp2
              go_round
              case rel => exact ⟨d + 6, by go_num, by omega, by omega, by have := H6.out; show _ = _; omega, HW.out⟩
              case measure => simp [intOf]; omega
        · have hs2 : (n : Int) < (d : Int) * (d : Int) := by rw [← Int.natCast_mul]; omega
          have HL : Hid (LeastIs n (n : Int)) := .inl ⟨rfl, clear_prime hn HC.out (by omega)⟩
          clear hs
          go_wp2
          go_ret
          exact ⟨_, rfl, HL.out, rfl⟩

/-- Whether an integer is a prime. -/
def prI (n : Int) : Bool := prB n.toNat
theorem prI_small {n : Int} (h : n < 2) : prI n = false := prB_false (fun k => by have := k.1; omega)
theorem prI_nat (n : Nat) : prI (n : Int) = prB n := by unfold prI; rw [Int.toNat_natCast]

theorem ret2_bool {b c : Bool} {k : Int} (h : b = c) : Ending.returned (.tuple #[.bool b, .int .i64 k]) = .returned (.tuple #[.bool c, .int .i64 k]) := by rw [h]
theorem least_beq {n : Nat} {r : Int} (h : LeastIs n r) : (r == (n : Int)) = prI (n : Int) := by
  rw [prI_nat]
  rcases h with ⟨rfl, h⟩ | ⟨hr, h⟩
  · rw [prB_true h]; simp
  · rw [prB_false h]; simpa using hr
set_option maxHeartbeats 800000 in
theorem isPrime_any (n : Int) (w : World) (hn2 : n ≤ 2147483647) :
    Calls Try.prog 20 #[.int .i64 n] w fun e w' => e = .returned (.tuple #[.bool (prI n), .int .i64 0]) ∧ w = w' := by
  by_cases h : n < 2
  · have hp := Lib.hid (prI_small h)
    have hb : decide (2 ≤ n) = false := by simpa using h
    go_enter Try.func20, Try.ntmps20
    go_wp2
    go_ret2
    exact ⟨ret2_bool hp.out.symm, rfl⟩
  · obtain ⟨k, rfl⟩ : ∃ k : Nat, n = (k : Int) := ⟨n.toNat, by omega⟩
    have hk : 2 ≤ (k : Int) := by omega
    clear h
    go_enter Try.func20, Try.ntmps20
    go_wp2_with (go_at_call 58; ((with_reducible refine (least_any k _ (by omega) hn2).mono ?_); rintro e w' ⟨r, rfl, hr, rfl⟩; have HR := Lib.hid hr; clear hr))
    go_ret2
    exact ⟨ret2_bool (by simpa using least_beq HR.out), rfl⟩
set_option maxHeartbeats 800000 in
theorem isPrime_big (n : Int) (w : World) (hn2 : 2147483647 < n) :
    Calls Try.prog 20 #[.int .i64 n] w fun e w' => e = .returned (.tuple #[.bool false, .int .i64 2]) ∧ w = w' := by
  go_enter Try.func20, Try.ntmps20
  go_wp2
  go_ret2
  exact ⟨rfl, rfl⟩
theorem ret_bool {b c : Bool} (h : b = c) : Ending.returned (.bool b) = .returned (.bool c) := by rw [h]
theorem clear_next {n d : Nat} (h : Clear n d) (hm : n % d ≠ 0) : Clear n (d + 1) := fun e e2 ed => by
  by_cases k : e < d
  · exact h e e2 k
  · have : e = d := by omega
    subst this; exact hm
set_option maxHeartbeats 800000 in
set_option maxRecDepth 1000000 in
theorem refPrime_any (n : Int) (w : World) (hn2 : n ≤ 2147483647) :
    Calls Try.prog 21 #[.int .i64 n] w fun e w' => e = .returned (.bool (prI n)) ∧ w = w' := by
  by_cases h : n < 2
  · have hp := Lib.hid (prI_small h)
    have hb : decide (1 < n) = false := by simp; omega
    go_enter Try.func21, Try.ntmps21
    go_wp2
    refine wp_loop_rounds 1 ?_
    rw [rounds_succ]
    go_wp2
    go_ret
    exact ⟨ret_bool hp.out.symm, rfl⟩
  · obtain ⟨k, rfl⟩ : ∃ k : Nat, n = (k : Int) := ⟨n.toNat, by omega⟩
    have hk : 2 ≤ (k : Int) := by omega
    clear h
    go_enter Try.func21, Try.ntmps21
    go_wp2
    go_loop [3] (fun D => ∃ d : Nat, D = .int .i64 d ∧ 2 ≤ d ∧ (d : Int) ≤ 46341 ∧ Hid (Clear k d)) (fun D => 50000 - (intOf D).toNat)
    case atStart => exact ⟨2, rfl, by omega, by omega, fun e e2 ed => by omega⟩
    case round =>
      obtain ⟨d, rfl, hd, hd2, HC⟩ := hrel
      have hdd : (d : Int) * (d : Int) ≤ 46341 * 46341 := Int.mul_le_mul hd2 hd2 (by omega) (by omega)
      have hdd0 : 0 ≤ (d : Int) * (d : Int) := Int.mul_nonneg (by omega) (by omega)
      by_cases hs : d * d ≤ k
      · have hs2 : (d : Int) * (d : Int) ≤ (k : Int) := by rw [← Int.natCast_mul]; omega
        have hd3 := sq_bound (d := d) (by omega)
        by_cases m1 : k % d = 0
        · have HP : Hid (prI (k : Int) = false) := by
            show _ = _
            rw [prI_nat]
            refine prB_false (fun hp => hp.2 d hd hs m1)
          have f1 : ((k : Int) % (d : Int) == 0) = true := by rw [natmod_cast, m1]; rfl
          clear m1 hs
          go_wp2
          go_ret
          exact ⟨ret_bool HP.out.symm, rfl⟩
        · have f1 : ((k : Int) % (d : Int) == 0) = false := by rw [natmod_cast]; simp; omega
          have HN := Lib.hid (clear_next HC.out m1)
          clear m1 hs
          go_wp2
          go_round
          case rel => exact ⟨d + 1, by go_num, by omega, by omega, HN.out⟩
          case measure => simp [intOf]; omega
      · have hs2 : (k : Int) < (d : Int) * (d : Int) := by rw [← Int.natCast_mul]; omega
        have HP : Hid (prI (k : Int) = true) := by
          show _ = _
          rw [prI_nat]
          exact prB_true (clear_prime (by omega) HC.out (by omega))
        clear hs
        go_wp2
        go_ret
        exact ⟨by rw [HP.out]; simp; omega, rfl⟩
end Go.Proofs.Ytoeailhcobbhjaa
