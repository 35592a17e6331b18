/- ArithResidues answers true for all integers: what it does to the world. -/
import Derived.Test.YtoeailhcobbhjaaOrd
import Derived.Test.YtoeailhcobbhjaaAwake
import Derived.IntWalk
namespace Go.Proofs.Ytoeailhcobbhjaa
open Go.RowKit

theorem OrdIs.unique {a m o e o' e' : Int} (h : OrdIs a m o e) (k : OrdIs a m o' e') : o = o' ∧ e = e' := by
  rcases h with ⟨h1, h2, x, h3, h4, _⟩ | ⟨h1, h2, h3⟩ <;> rcases k with ⟨k1, k2, y, k3, k4, _⟩ | ⟨k1, k2, k3⟩
  · have := h4.unique k4; subst this; exact ⟨by omega, by omega⟩
  · exact absurd h1 k1
  · exact absurd k1 h1
  · exact ⟨by omega, by omega⟩
theorem order_no (a m : Int) (w : World) (h : m < 1 ∨ 2147483647 < m) :
    Calls Try.prog 47 #[.int .i64 a, .int .i64 m] w fun e w' => e = .returned (.tuple #[.int .i64 0, .int .i64 2]) ∧ w = w' := by
  go_enter Try.func47, Try.ntmps47
  go_wp2_with (first
    | (go_at_call 44; ((with_reducible refine (inverse_no _ _ _ h).mono ?_); rintro e w' ⟨rfl, rfl⟩)))
  go_ret2
  exact ⟨rfl, rfl⟩
theorem refOrder_no (a m : Int) (w : World) (h : m < 1 ∨ 2147483647 < m) :
    Calls Try.prog 48 #[.int .i64 a, .int .i64 m] w fun e w' => e = .returned (.tuple #[.int .i64 0, .int .i64 2]) ∧ w = w' := by
  go_enter Try.func48, Try.ntmps48
  go_wp2_with (first
    | (go_at_call 45; ((with_reducible refine (refInverse_no _ _ _ h).mono ?_); rintro e w' ⟨rfl, rfl⟩)))
  go_ret2
  exact ⟨rfl, rfl⟩

set_option maxHeartbeats 1600000 in
set_option maxRecDepth 1000000 in
theorem resid_out (a n m : Int) (w : World) (h : m < 1 ∨ 2147483647 < m) :
    Calls Try.prog 12 #[.int .i64 a, .int .i64 n, .int .i64 m] w fun e w' => e = .returned (.bool true) ∧ Below w.heap.size w w' := by
  have HP := Lib.hid (fun W => powModX_no a n m W (.inl h))
  go_enter Try.func12, Try.ntmps12
  go_wp2_with (first
    | (go_at_call 15; ((with_reducible refine (awake_any _).mono ?_); rintro e w1 ⟨rfl, hb1⟩; have HB := Lib.hid hb1; clear hb1))
    | (go_at_call 44; ((with_reducible refine (inverse_no _ _ _ h).mono ?_); rintro e w' ⟨rfl, rfl⟩))
    | (go_at_call 45; ((with_reducible refine (refInverse_no _ _ _ h).mono ?_); rintro e w' ⟨rfl, rfl⟩))
    | (go_at_call 46; ((with_reducible refine (HP.out _).mono ?_); rintro e w' ⟨rfl, rfl⟩))
    | (go_at_call 47; ((with_reducible refine (order_no _ _ _ h).mono ?_); rintro e w' ⟨rfl, rfl⟩))
    | (go_at_call 48; ((with_reducible refine (refOrder_no _ _ _ h).mono ?_); rintro e w' ⟨rfl, rfl⟩))
    | (go_at_call 27; ((with_reducible refine (refInRange_no _ _ h).mono ?_); rintro e w' ⟨rfl, rfl⟩)))
  go_ret
  exact ⟨rfl, HB.out⟩

set_option maxHeartbeats 1600000 in
set_option maxRecDepth 1000000 in
theorem resid_bad (a n : Int) (m : Nat) (w : World) (m1 : 1 ≤ m) (m2 : (m : Int) ≤ 2147483647) (n2 : n ≤ 9223372036854775807) (hg : ¬ Int.gcd (a % m) m = 1) :
    Calls Try.prog 12 #[.int .i64 a, .int .i64 n, .int .i64 m] w fun e w' => e = .returned (.bool true) ∧ Below w.heap.size w w' := by
  have HI : Hid (∀ W : World, Calls Try.prog 44 #[.int .i64 a, .int .i64 m] W fun e w' => e = .returned (.tuple #[.int .i64 0, .int .i64 9]) ∧ W = w') := fun W =>
    (inverse_yes a m W (by omega) m2).mono fun e w' ⟨u, e0, he, hi, hw⟩ => by
      rcases hi with ⟨h1, _⟩ | ⟨_, h2, h3⟩
      · exact absurd h1 hg
      · exact ⟨by rw [he, h2, h3], hw⟩
  have HJ : Hid (∀ W : World, Calls Try.prog 45 #[.int .i64 a, .int .i64 m] W fun e w' => e = .returned (.tuple #[.int .i64 0, .int .i64 9]) ∧ W = w') := fun W =>
    (refInverse_any a m W (by omega) m2).mono fun e w' ⟨u, e0, he, hi, hw⟩ => by
      rcases hi with ⟨h1, _⟩ | ⟨_, h2, h3⟩
      · exact absurd h1 hg
      · exact ⟨by rw [he, h2, h3], hw⟩
  have HO : Hid (∀ W : World, Calls Try.prog 47 #[.int .i64 a, .int .i64 m] W fun e w' => e = .returned (.tuple #[.int .i64 0, .int .i64 9]) ∧ Below W.heap.size W w') := fun W =>
    (order_any a m W m1 m2).mono fun e w' ⟨u, e0, he, hi, hw⟩ => by
      rcases hi with ⟨h1, _⟩ | ⟨_, h2, h3⟩
      · exact absurd h1 hg
      · exact ⟨by rw [he, h2, h3], hw⟩
  have HQ : Hid (∀ W : World, Calls Try.prog 48 #[.int .i64 a, .int .i64 m] W fun e w' => e = .returned (.tuple #[.int .i64 0, .int .i64 9]) ∧ Below W.heap.size W w') := fun W =>
    (refOrder_any a m W m1 m2).mono fun e w' ⟨u, e0, he, hi, hw⟩ => by
      rcases hi with ⟨h1, _⟩ | ⟨_, h2, h3⟩
      · exact absurd h1 hg
      · exact ⟨by rw [he, h2, h3], hw⟩
  clear hg
  rcases Int.lt_or_le n 0 with hn | hn
  · have HP := Lib.hid (fun W => powModX_no a n m W (.inr hn))
    clear n2
    go_enter Try.func12, Try.ntmps12
    go_wp2_with (first
    | (go_at_call 15; ((with_reducible refine (awake_any _).mono ?_); rintro e w1 ⟨rfl, hb1⟩; have HB := Lib.hid hb1; have hs1 := hb1.size; clear hb1))
    | (go_at_call 44; ((with_reducible refine (HI.out _).mono ?_); rintro e w' ⟨rfl, rfl⟩))
    | (go_at_call 45; ((with_reducible refine (HJ.out _).mono ?_); rintro e w' ⟨rfl, rfl⟩))
    | (go_at_call 46; ((with_reducible refine (HP.out _).mono ?_); rintro e w' ⟨rfl, rfl⟩))
    | (go_at_call 47; ((with_reducible refine (HO.out _).mono ?_); rintro e w2 ⟨rfl, hb2⟩; have HB2 := Lib.hid (HB.out.trans (hb2.mono hs1)); have hs2 := HB2.out.size; clear hb2))
    | (go_at_call 48; ((with_reducible refine (HQ.out _).mono ?_); rintro e w3 ⟨rfl, hb3⟩; have HB3 := Lib.hid (HB2.out.trans (hb3.mono hs2)); clear hb3))
    | (go_at_call 27; ((with_reducible refine (refInRange_yes _ _ (by omega) m2).mono ?_); rintro e w' ⟨rfl, rfl⟩))
    | (go_at_call 49; ((with_reducible refine (HW.out _).mono ?_); rintro e w' ⟨rfl, Z, rfl⟩)))
    go_ret
    exact ⟨rfl, HB3.out⟩
  · obtain ⟨n, rfl⟩ : ∃ k : Nat, n = (k : Int) := ⟨n.toNat, by omega⟩
    have HP := Lib.hid (fun W => powModX_yes a m n W (by omega) m2 n2)
    have HW := Lib.hid (fun W => power_any a m n W (by omega) m2 n2)
    clear n2
    generalize a ^ n % (m : Int) = y at *
    go_enter Try.func12, Try.ntmps12
    go_wp2_with (first
    | (go_at_call 15; ((with_reducible refine (awake_any _).mono ?_); rintro e w1 ⟨rfl, hb1⟩; have HB := Lib.hid hb1; have hs1 := hb1.size; clear hb1))
    | (go_at_call 44; ((with_reducible refine (HI.out _).mono ?_); rintro e w' ⟨rfl, rfl⟩))
    | (go_at_call 45; ((with_reducible refine (HJ.out _).mono ?_); rintro e w' ⟨rfl, rfl⟩))
    | (go_at_call 46; ((with_reducible refine (HP.out _).mono ?_); rintro e w' ⟨rfl, rfl⟩))
    | (go_at_call 47; ((with_reducible refine (HO.out _).mono ?_); rintro e w2 ⟨rfl, hb2⟩; have HB2 := Lib.hid (HB.out.trans (hb2.mono hs1)); have hs2 := HB2.out.size; clear hb2))
    | (go_at_call 48; ((with_reducible refine (HQ.out _).mono ?_); rintro e w3 ⟨rfl, hb3⟩; have HB3 := Lib.hid (HB2.out.trans (hb3.mono hs2)); clear hb3))
    | (go_at_call 27; ((with_reducible refine (refInRange_yes _ _ (by omega) m2).mono ?_); rintro e w' ⟨rfl, rfl⟩))
    | (go_at_call 49; ((with_reducible refine (HW.out _).mono ?_); rintro e w' ⟨rfl, Z, rfl⟩)))
    go_quiet ((go_at_call 50; first | exact quiet_left (refMod_any _ _ _ (by omega) (by omega)) | exact quiet_add_left (refMod_any _ _ _ (by omega) (by omega))))
    go_wp2
    go_ret
    exact ⟨rfl, by repeat (first | exact HB3.out | refine below_drewN ?_ _)⟩

set_option maxHeartbeats 1600000 in
set_option maxRecDepth 1000000 in
/-- With the inverse u and the order o at hand. -/
theorem resid_good (a n u : Int) (m o : Nat) (w : World) (m1 : 1 ≤ m) (m2 : (m : Int) ≤ 2147483647) (n2 : n ≤ 9223372036854775807) (hg : Int.gcd (a % m) m = 1) (hu : IsU (a % m) m 1 u) (ho : IsOrd a m o) (hom : (o : Int) ≤ m) :
    Calls Try.prog 12 #[.int .i64 a, .int .i64 n, .int .i64 m] w fun e w' => e = .returned (.bool true) ∧ Below w.heap.size w w' := by
  have HI : Hid (∀ W : World, Calls Try.prog 44 #[.int .i64 a, .int .i64 m] W fun e w' => e = .returned (.tuple #[.int .i64 u, .int .i64 0]) ∧ W = w') := fun W =>
    (inverse_yes a m W (by omega) m2).mono fun e w' ⟨x, e0, he, hi, hw⟩ => by
      obtain ⟨rfl, rfl⟩ := InvIs.unique (by omega) hi (.inl ⟨hg, rfl, hu⟩)
      exact ⟨he, hw⟩
  have HJ : Hid (∀ W : World, Calls Try.prog 45 #[.int .i64 a, .int .i64 m] W fun e w' => e = .returned (.tuple #[.int .i64 u, .int .i64 0]) ∧ W = w') := fun W =>
    (refInverse_any a m W (by omega) m2).mono fun e w' ⟨x, e0, he, hi, hw⟩ => by
      obtain ⟨rfl, rfl⟩ := InvIs.unique (by omega) hi (.inl ⟨hg, rfl, hu⟩)
      exact ⟨he, hw⟩
  have HO : Hid (∀ W : World, Calls Try.prog 47 #[.int .i64 a, .int .i64 m] W fun e w' => e = .returned (.tuple #[.int .i64 o, .int .i64 0]) ∧ Below W.heap.size W w') := fun W =>
    (order_any a m W m1 m2).mono fun e w' ⟨x, e0, he, hi, hw⟩ => by
      obtain ⟨rfl, rfl⟩ := OrdIs.unique hi (.inl ⟨hg, rfl, o, rfl, ho, hom⟩)
      exact ⟨he, hw⟩
  have HQ : Hid (∀ W : World, Calls Try.prog 48 #[.int .i64 a, .int .i64 m] W fun e w' => e = .returned (.tuple #[.int .i64 o, .int .i64 0]) ∧ Below W.heap.size W w') := fun W =>
    (refOrder_any a m W m1 m2).mono fun e w' ⟨x, e0, he, hi, hw⟩ => by
      obtain ⟨rfl, rfl⟩ := OrdIs.unique hi (.inl ⟨hg, rfl, o, rfl, ho, hom⟩)
      exact ⟨he, hw⟩
  have ho1 := ho.pos
  have hmul : (((a % (m : Int)) * u % (m : Int)) == 1 % (m : Int)) = true := by
    rw [beq_iff_eq, Int.emod_eq_emod_iff_emod_sub_eq_zero, Int.mul_comm]
    exact Int.emod_eq_zero_of_dvd (by simpa using hu.dvd)
  have r1 := Int.emod_nonneg a (show (m : Int) ≠ 0 by omega)
  have r2 := Int.emod_lt_of_pos a (show 0 < (m : Int) by omega)
  have u1 := hu.lo
  have u2 : u < (m : Int) := by have := hu.hi; simpa using this
  have b1 : 0 ≤ (a % (m : Int)) * u := Int.mul_nonneg r1 u1
  have b2 : (a % (m : Int)) * u ≤ 4611686014132420609 := Int.le_trans (Int.mul_le_mul (show a % (m : Int) ≤ 2147483647 by omega) (show u ≤ 2147483647 by omega) u1 (by omega)) (by decide)
  have hm0 : 1 ≤ (m : Int) := by omega
  have HORD := Lib.hid ho
  have HM := Lib.hid (fun W => refMod_any a m W (by omega) (by omega))
  clear hg hu ho
  generalize a % (m : Int) = r at *
  rcases Int.lt_or_le n 0 with hn | hn
  · have HP := Lib.hid (fun W => powModX_no a n m W (.inr hn))
    clear n2
    go_enter Try.func12, Try.ntmps12
    go_wp2_with (first
    | (go_at_call 15; ((with_reducible refine (awake_any _).mono ?_); rintro e w1 ⟨rfl, hb1⟩; have HB := Lib.hid hb1; have hs1 := hb1.size; clear hb1))
    | (go_at_call 44; ((with_reducible refine (HI.out _).mono ?_); rintro e w' ⟨rfl, rfl⟩))
    | (go_at_call 45; ((with_reducible refine (HJ.out _).mono ?_); rintro e w' ⟨rfl, rfl⟩))
    | (go_at_call 46; ((with_reducible refine (HP.out _).mono ?_); rintro e w' ⟨rfl, rfl⟩))
    | (go_at_call 47; ((with_reducible refine (HO.out _).mono ?_); rintro e w2 ⟨rfl, hb2⟩; have HB2 := Lib.hid (HB.out.trans (hb2.mono hs1)); have hs2 := HB2.out.size; clear hb2))
    | (go_at_call 48; ((with_reducible refine (HQ.out _).mono ?_); rintro e w3 ⟨rfl, hb3⟩; have HB3 := Lib.hid (HB2.out.trans (hb3.mono hs2)); clear hb3))
    | (go_at_call 27; ((with_reducible refine (refInRange_yes _ _ (by omega) m2).mono ?_); rintro e w' ⟨rfl, rfl⟩))
    | (go_at_call 49; ((with_reducible refine (HW.out _).mono ?_); rintro e w' ⟨rfl, Z, rfl⟩)))
    go_ret
    exact ⟨rfl, HB3.out⟩
  · obtain ⟨n, rfl⟩ : ∃ k : Nat, n = (k : Int) := ⟨n.toNat, by omega⟩
    have HP := Lib.hid (fun W => powModX_yes a m n W (by omega) m2 n2)
    have HW := Lib.hid (fun W => power_any a m n W (by omega) m2 n2)
    have h3 := Int.emod_nonneg 1 (show (m : Int) ≠ 0 by omega)
    have hcast : ((n : Int) % (o : Int)) = ((n % o : Nat) : Int) := natmod_cast n o
    by_cases hd : o ∣ n
    · have t1 : (a ^ n % (m : Int) == 1 % (m : Int)) = true := by
        rw [beq_iff_eq]
        exact pow_one_iff.2 (pow_one_of_dvd HORD.out.one hd)
      have t2 : ((n : Int) % (o : Int) == 0) = true := by rw [hcast, Nat.mod_eq_zero_of_dvd hd]; rfl
      have t3 : (((n % o : Nat) : Int) == 0) = true := by rw [Nat.mod_eq_zero_of_dvd hd]; rfl
      have hno1 : 0 ≤ (n : Int) % (o : Int) := Int.emod_nonneg _ (by omega)
      have hno2 : (n : Int) % (o : Int) ≤ 2147483647 := by have := Int.emod_lt_of_pos (n : Int) (show 0 < (o : Int) by omega); omega
      clear hd hcast n2
      generalize a ^ n % (m : Int) = y at *
      have hw1 : IntKind.i64.wrap (r * u) = r * u := IntWalk.i64_in _ ⟨by omega, by omega⟩
      have hw3 : 0 ≤ r * u % (m : Int) := Int.emod_nonneg _ (by omega)
      have hw4 : r * u % (m : Int) ≤ 2147483647 := by have := Int.emod_lt_of_pos (r * u) (show 0 < (m : Int) by omega); omega
      obtain ⟨hdc, hbig⟩ | ⟨hdc, hbig⟩ : (decide (1000 < (n : Int)) = true ∧ 1000 < (n : Int)) ∨ (decide (1000 < (n : Int)) = false ∧ (n : Int) ≤ 1000) := by
        rcases Int.lt_or_le 1000 (n : Int) with h | h
        · exact .inl ⟨decide_eq_true h, h⟩
        · exact .inr ⟨decide_eq_false (by omega), h⟩
      all_goals go_enter Try.func12, Try.ntmps12
      all_goals go_wp2_with (first
    | (go_at_call 15; ((with_reducible refine (awake_any _).mono ?_); rintro e w1 ⟨rfl, hb1⟩; have HB := Lib.hid hb1; have hs1 := hb1.size; clear hb1))
    | (go_at_call 44; ((with_reducible refine (HI.out _).mono ?_); rintro e w' ⟨rfl, rfl⟩))
    | (go_at_call 45; ((with_reducible refine (HJ.out _).mono ?_); rintro e w' ⟨rfl, rfl⟩))
    | (go_at_call 46; ((with_reducible refine (HP.out _).mono ?_); rintro e w' ⟨rfl, rfl⟩))
    | (go_at_call 47; ((with_reducible refine (HO.out _).mono ?_); rintro e w2 ⟨rfl, hb2⟩; have HB2 := Lib.hid (HB.out.trans (hb2.mono hs1)); have hs2 := HB2.out.size; clear hb2))
    | (go_at_call 48; ((with_reducible refine (HQ.out _).mono ?_); rintro e w3 ⟨rfl, hb3⟩; have HB3 := Lib.hid (HB2.out.trans (hb3.mono hs2)); clear hb3))
    | (go_at_call 27; ((with_reducible refine (refInRange_yes _ _ (by omega) m2).mono ?_); rintro e w' ⟨rfl, rfl⟩))
    | (go_at_call 49; ((with_reducible refine (HW.out _).mono ?_); rintro e w' ⟨rfl, Z, rfl⟩)))
      all_goals go_quiet ((go_at_call 50; first | exact quiet_left (HM.out _) | exact quiet_add_left (HM.out _)))
      all_goals go_wp2
      all_goals go_ret
      all_goals exact ⟨rfl, by repeat (first | exact HB3.out | refine below_drewN ?_ _)⟩
    · have t1 : (a ^ n % (m : Int) == 1 % (m : Int)) = false := by
        rw [beq_eq_false_iff_ne]
        exact fun h => hd (HORD.out.min _ (pow_one_iff.1 h))
      have t2 : ((n : Int) % (o : Int) == 0) = false := by
        rw [hcast, beq_eq_false_iff_ne]
        intro h
        exact hd (Nat.dvd_of_mod_eq_zero (by omega))
      have t3 : (((n % o : Nat) : Int) == 0) = false := by rw [← hcast]; exact t2
      have hno1 : 0 ≤ (n : Int) % (o : Int) := Int.emod_nonneg _ (by omega)
      have hno2 : (n : Int) % (o : Int) ≤ 2147483647 := by have := Int.emod_lt_of_pos (n : Int) (show 0 < (o : Int) by omega); omega
      clear hd hcast n2
      generalize a ^ n % (m : Int) = y at *
      have hw1 : IntKind.i64.wrap (r * u) = r * u := IntWalk.i64_in _ ⟨by omega, by omega⟩
      have hw3 : 0 ≤ r * u % (m : Int) := Int.emod_nonneg _ (by omega)
      have hw4 : r * u % (m : Int) ≤ 2147483647 := by have := Int.emod_lt_of_pos (r * u) (show 0 < (m : Int) by omega); omega
      obtain ⟨hdc, hbig⟩ | ⟨hdc, hbig⟩ : (decide (1000 < (n : Int)) = true ∧ 1000 < (n : Int)) ∨ (decide (1000 < (n : Int)) = false ∧ (n : Int) ≤ 1000) := by
        rcases Int.lt_or_le 1000 (n : Int) with h | h
        · exact .inl ⟨decide_eq_true h, h⟩
        · exact .inr ⟨decide_eq_false (by omega), h⟩
      all_goals go_enter Try.func12, Try.ntmps12
      all_goals go_wp2_with (first
    | (go_at_call 15; ((with_reducible refine (awake_any _).mono ?_); rintro e w1 ⟨rfl, hb1⟩; have HB := Lib.hid hb1; have hs1 := hb1.size; clear hb1))
    | (go_at_call 44; ((with_reducible refine (HI.out _).mono ?_); rintro e w' ⟨rfl, rfl⟩))
    | (go_at_call 45; ((with_reducible refine (HJ.out _).mono ?_); rintro e w' ⟨rfl, rfl⟩))
    | (go_at_call 46; ((with_reducible refine (HP.out _).mono ?_); rintro e w' ⟨rfl, rfl⟩))
    | (go_at_call 47; ((with_reducible refine (HO.out _).mono ?_); rintro e w2 ⟨rfl, hb2⟩; have HB2 := Lib.hid (HB.out.trans (hb2.mono hs1)); have hs2 := HB2.out.size; clear hb2))
    | (go_at_call 48; ((with_reducible refine (HQ.out _).mono ?_); rintro e w3 ⟨rfl, hb3⟩; have HB3 := Lib.hid (HB2.out.trans (hb3.mono hs2)); clear hb3))
    | (go_at_call 27; ((with_reducible refine (refInRange_yes _ _ (by omega) m2).mono ?_); rintro e w' ⟨rfl, rfl⟩))
    | (go_at_call 49; ((with_reducible refine (HW.out _).mono ?_); rintro e w' ⟨rfl, Z, rfl⟩)))
      all_goals go_quiet ((go_at_call 50; first | exact quiet_left (HM.out _) | exact quiet_add_left (HM.out _)))
      all_goals go_wp2
      all_goals go_ret
      all_goals exact ⟨rfl, by repeat (first | exact HB3.out | refine below_drewN ?_ _)⟩

theorem euc_run {a b : Int} : ∀ (n : Nat) (x y s t : Int), y.natAbs ≤ n → Euc a b x y s t → ∃ x s t : Int, Euc a b x 0 s t := by
  intro n
  induction n with
  | zero =>
    intro x y s t hy h
    obtain rfl : y = 0 := by omega
    exact ⟨x, s, t, h⟩
  | succ n ih =>
    intro x y s t hy h
    by_cases h0 : y = 0
    · subst h0; exact ⟨x, s, t, h⟩
    · have h1 := Euc.r_lt (x := x) h0
      exact ih _ _ _ _ (by omega) h.step
theorem isU_exists {a b : Int} (hb : b ≠ 0) (hg : Int.gcd a b = 1) : ∃ u, IsU a b 1 u := by
  obtain ⟨x, s, t, h⟩ := euc_run _ a b 1 0 (Nat.le_refl _) (Euc.start a b)
  have := (h.final hb).2
  rw [hg] at this
  exact ⟨_, this⟩

theorem resid_walk (a n m : Int) (w : World) (_ : -9223372036854775808 ≤ a) (_ : a ≤ 9223372036854775807) (_ : -9223372036854775808 ≤ n) (hn : n ≤ 9223372036854775807) (_ : -9223372036854775808 ≤ m) (_ : m ≤ 9223372036854775807) :
    Calls Try.prog 12 #[.int .i64 a, .int .i64 n, .int .i64 m] w fun e w' => e = .returned (.bool true) ∧ Below w.heap.size w w' := by
  rcases Classical.em (m < 1 ∨ 2147483647 < m) with h | h
  · exact resid_out a n m w h
  · obtain ⟨k, rfl⟩ : ∃ k : Nat, m = (k : Int) := ⟨m.toNat, by omega⟩
    have h1 : 1 ≤ k := by omega
    have h2 : (k : Int) ≤ 2147483647 := by omega
    by_cases hg : Int.gcd (a % k) k = 1
    · have hcop := gcd_of_emod h1 hg
      obtain ⟨o, ho, hod⟩ := ord_exists (by rw [phiOf_facs h1]; exact tot_pos fun q hq => ((facs_two_is h1).mem q hq).1) (euler_phi h1 hcop)
      have hle := phiOf_le (facs 2 k) k
      have hop : o ≤ phiOf k (facs 2 k) := Nat.le_of_dvd (by rw [phiOf_facs h1]; exact tot_pos fun q hq => ((facs_two_is h1).mem q hq).1) hod
      obtain ⟨u, hu⟩ := isU_exists (a := a % (k : Int)) (b := (k : Int)) (by omega) hg
      exact resid_good a n u k o w h1 h2 hn hg hu ho (by omega)
    · exact resid_bad a n k w h1 h2 hn hg
end Go.Proofs.Ytoeailhcobbhjaa
